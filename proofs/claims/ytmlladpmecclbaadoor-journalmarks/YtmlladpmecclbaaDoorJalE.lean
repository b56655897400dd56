/- JnRMark, Ints, OwnRow, CutFrom, NumsMore, MapOf, PlMath, JnMath, PlLeaf, PlOf, PlParent, PlClimb, PlPath, PlNeed, PickAny, PlAwake, NbRow, JnHeads, JnCut, JnHead, JnLaw, PlTree, PlLevel, PlFirst, PlRPar, PlAgree, PlEq, EqArr, RowCut, SameGrow, Parts, ArrNum. -/
import Derived.Test.YtmlladpmecclbaaDoorJalC
import Derived.Test.YtmlladpmecclbaaDoorJalD
import Derived.Test.YtmlladpmecclbaaDoorJalA
import Derived.ProofKit
import Derived.OpenShut
import Derived.ChangeOld
import Derived.Below
import Derived.Deep.Cut
import Derived.Test.YtmlladpmecclbaaDoorJalB
import Derived.Laws.MakeOwn
import Derived.Laws.StructEq
/- journal's reference: Mark. -/
namespace Go.Proofs.YtmlladpmecclbaaDoor
open Go.RowKit

set_option maxRecDepth 100000 in
set_option maxHeartbeats 4000000 in
theorem rjmark_any {w : World} {hv iv : Value} {xs ys : List (List Nat)} (hh : Ps w hv xs) (hj : Ps w iv ys) (hl : xs.flatten.length + xs.length ≤ 20000) (hl2 : ys.flatten.length + ys.length ≤ 20000) :
    Calls Tryd.prog 18 #[hv, iv] w fun e w' => e = .returned (dkey (digest (mkI xs ys))) ∧ Grow w w' := by
  obtain ⟨Z, hZ⟩ : ∃ Z, Z = u8s z32 := ⟨_, rfl⟩
  have hz := z32v
  rw [← hZ] at hz
  have HZL : Hid (Z.length = 32) := by show _ = _; rw [hZ]; rfl
  obtain ⟨g0, hg0⟩ : ∃ g, g = w.heap.size := ⟨_, rfl⟩
  obtain ⟨W0, hW0⟩ : ∃ W0, W0 = w.alloc (.cells Z.toArray 31) := ⟨_, rfl⟩
  have hT0 : Grow w W0 := by rw [hW0]; exact (But.refl _ w).alloc _
  have HR0 : Hid (Blk W0 g0 31 Z) := by show Blk _ _ _ _; rw [hW0]; exact Blk.new hg0.symm
  have hs0 : W0.heap.size = g0 + 1 := by rw [hW0, hg0]; simp
  obtain ⟨W1, hW1⟩ : ∃ W1, W1 = W0.alloc (.cells #[.int .u8 2] 5) := ⟨_, rfl⟩
  have hT1 : Grow W0 W1 := by rw [hW1]; exact (But.refl _ W0).alloc _
  have HO1 : Hid (Ow W1 (g0 + 1) (.slice (some ⟨g0 + 1, 0, none⟩) 1 1) [2]) := by
    show Ow _ _ _ _
    rw [hW1, ← hs0]
    exact block_own (zs := [2]) (heap_alloc_new W0 _) (Nat.le_refl _) (by decide) (by decide)
  obtain ⟨D, hD⟩ : ∃ D, D = digest (mkI xs ys) := ⟨_, rfl⟩
  have HDL : Hid (D.length = 32) := by show _ = _; rw [hD]; exact (digest_wf _).1
  rw [← hD]
  have HD := Hid.mk' hD
  have HT1 := Hid.mk' (hT0.trans hT1)
  have HG0 := Hid.mk' hg0
  have HW0 := Hid.mk' hW0
  have HW1 := Hid.mk' hW1
  have HS0 := Hid.mk' hs0
  have HT01 := Hid.mk' hT1
  have HT0' := Hid.mk' hT0
  have HL : Hid (xs.flatten.length ≤ 20000 ∧ ys.flatten.length ≤ 20000) := ⟨by omega, by omega⟩
  have HJ1 : Hid (∀ w', Grow w w' → Calls Tryd.prog 20 #[hv] w' fun e w'' => ∃ v', e = .returned v' ∧ Bs w'' v' xs.flatten ∧ Grow w' w'') := fun w' k => by
    refine (rjoin_any (hh.below k) (by omega) (by omega)).mono ?_
    rintro e w'' ⟨v', rfl, ho, hb⟩
    exact ⟨v', rfl, ho.bs, But.of hb⟩
  have HJ2 : Hid (∀ w', Grow w w' → Calls Tryd.prog 20 #[iv] w' fun e w'' => ∃ v', e = .returned v' ∧ Bs w'' v' ys.flatten ∧ Grow w' w'') := fun w' k => by
    refine (rjoin_any (hj.below k) (by omega) (by omega)).mono ?_
    rintro e w'' ⟨v', rfl, ho, hb⟩
    exact ⟨v', rfl, ho.bs, But.of hb⟩
  obtain ⟨ha, hn', hc, rfl⟩ : ∃ a n c, hv = .slice a n c := by obtain ⟨a, c, e, _⟩ := hh.gen; exact ⟨a, _, c, e⟩
  obtain ⟨ia, in', ic, rfl⟩ : ∃ a n c, iv = .slice a n c := by obtain ⟨a, c, e, _⟩ := hj.gen; exact ⟨a, _, c, e⟩
  clear hh hj hl hl2 hZ hg0 hW0 hT0 hW1 hT1 hD
  go_enter Tryd.func18, Tryd.ntmps18
  go_upto_region 1 with fail
  rw [← HW0.out, ← HG0.out]
  go_wp2_with fail
  rw [← HW1.out]
  refine Calls.mono (HJ1.out W1 HT1.out) ?_
  rintro e w2 ⟨v2, rfl, hb2, hg2⟩
  have HB2 := Hid.mk' hb2
  have HO2 := Hid.mk' (HO1.out.but hg2 (fun _ _ _ h => h))
  have HG2 := Hid.mk' (HT01.out.trans hg2)
  obtain ⟨a2, n2, c2, rfl⟩ := hb2.sl
  clear hb2 hg2 HO1
  go_upto_region 3 with (first
    | (refine wpList_append_bsC rfl _ _ rfl (g0 + 1) (.slice (some ⟨g0 + 1, 0, none⟩) 1 1) (.slice a2 n2 c2) [2] xs.flatten rfl HO2.out rfl HB2.out (by have := HL.out; simp only [List.length_singleton]; omega) (by have := HG2.out.size; have := HS0.out; omega) ?_; intro a5 m5 c5 w5 ho5 hm5 hg5; have HM5 := Hid.mk' hm5; clear hm5)
    | fail)
  have HO5 := Hid.mk' ho5
  have HG5 : Hid (Grow W0 w5) := HG2.out.grown hg5 (fun j hj hlt => by have h1 := (HO2.out.ge j hj).1; have := HS0.out; omega)
  clear ho5 hg5 HM5
  go_wp2_with fail
  refine Calls.mono (HJ2.out w5 (HT0'.out.trans HG5.out)) ?_
  rintro e w6 ⟨v6, rfl, hb6, hg6⟩
  have HB6 := Hid.mk' hb6
  have HO6 := Hid.mk' (HO5.out.but hg6 (fun _ _ _ h => h))
  have HG6 := Hid.mk' (HG5.out.trans hg6)
  obtain ⟨a6, n6, c6, rfl⟩ := hb6.sl
  clear hb6 hg6 HO5
  go_upto_region 4 with (first
    | (refine wpList_append_bsC rfl _ _ rfl (g0 + 1) (.slice a5 m5 c5) (.slice a6 n6 c6) ([2] ++ xs.flatten) ys.flatten rfl HO6.out rfl HB6.out (by have := HL.out; rw [List.length_append]; simp only [List.length_singleton]; omega) (by have := HG6.out.size; have := HS0.out; omega) ?_; intro a7 m7 c7 w7 ho7 hm7 hg7; have HM7 := Hid.mk' hm7; clear hm7)
    | fail)
  have HG7 : Hid (Grow W0 w7) := HG6.out.grown hg7 (fun j hj hlt => by have h1 := (HO6.out.ge j hj).1; have := HS0.out; omega)
  have hbs : Bs w7 (.slice a7 m7 c7) (mkI xs ys) := by
    have := ho7.bs
    rw [show [2] ++ xs.flatten ++ ys.flatten = mkI xs ys by simp [mkI]] at this
    exact this
  have hof := refOf_any hbs (by rw [mkI_len]; have := HL.out; omega)
  rw [← HD.out] at hof
  have HOF := Hid.mk' hof
  have HR7 := Hid.mk' (HR0.out.but HG7.out (fun h => h))
  clear ho7 hg7 HM7 hbs hof HR0
  go_wp2_with fail
  refine Calls.mono HOF.out ?_
  rintro e w8 ⟨rfl, hg8⟩
  have HR8 := Hid.mk' (HR7.out.but hg8 (fun h => h))
  have HG8 := Hid.mk' ((HT0'.out.trans HG7.out).trans hg8)
  clear hg8 HR7 HOF
  go_wp2_with (first
    | (refine wpList_store_u8s i32 rfl _ _ rfl g0 D HDL.out rfl rfl Z HZL.out HR8.out ?_; intro W9 hb9 hbut9)
    | fail)
  refine bodyPost_ret (results_cell_row rfl _ _ g0 _ _ _ _ rfl hb9 ukt rfl (by rw [i32]; simp [HDL.out])) rfl ⟨rfl, ?_⟩
  exact HG8.out.then hbut9 (fun i hi e => by have := HG0.out; omega)
end Go.Proofs.YtmlladpmecclbaaDoor
/- Slices of numbers; an argument that is one. -/
namespace Go.Proofs.YtmlladpmecclbaaDoor
open Go.ChangeShapes Go.WideShapes Go.ChangeAt Go.RowKit Go.Deep

/-- The slice v holds these numbers. -/
def Nums (w : World) (v : Value) (fs : List Int) : Prop := (∀ x ∈ fs, -9223372036854775808 ≤ x ∧ x ≤ 9223372036854775807) ∧ fs.length ≤ 140737488355328 ∧ ((fs = [] ∧ (v = .slice none 0 0 ∨ ∃ a cap, v = .slice (some a) 0 cap)) ∨ (0 < fs.length ∧ ∃ b off cap, v = .slice (some ⟨b, off, none⟩) fs.length cap ∧ fs.length ≤ cap ∧ b < w.heap.size ∧ ∀ i, i < fs.length → w.cell? ⟨b, off + i, none⟩ = some (.int .i64 (fs.getD i 0))))
theorem Nums.but {R : Nat → Prop} {w w' : World} {v : Value} {fs : List Int} (h : Nums w v fs) (k : But R w w') (hr : ∀ j, v.ownBlock = some j → j < w.heap.size → ¬ R j) : Nums w' v fs := by
  obtain ⟨h1, h2, h3 | ⟨h0, b, off, cap, rfl, hcap, hb, hc⟩⟩ := h
  · exact ⟨h1, h2, .inl h3⟩
  · exact ⟨h1, h2, .inr ⟨h0, b, off, cap, rfl, hcap, Nat.lt_of_lt_of_le hb k.size, fun i hi => (World.cell?_of_block (k.block b hb (hr b rfl hb))).trans (hc i hi)⟩⟩
theorem Nums.grow {w w' : World} {v : Value} {fs : List Int} (h : Nums w v fs) (k : Grow w w') : Nums w' v fs := h.but k (fun _ _ _ h => h)
theorem Nums.len {w : World} {v : Value} {fs : List Int} (h : Nums w v fs) : ∃ ao cap, v = .slice ao fs.length cap := by
  obtain ⟨h1, h2, ⟨rfl, rfl | ⟨a, cap, rfl⟩⟩ | ⟨h0, b, off, cap, rfl, hb, hc⟩⟩ := h
  · exact ⟨none, 0, rfl⟩
  · exact ⟨some a, cap, rfl⟩
  · exact ⟨_, cap, rfl⟩
theorem Nums.at {w : World} {v : Value} {fs : List Int} (h : Nums w v fs) (h0 : 0 < fs.length) : ∃ b off cap, v = .slice (some ⟨b, off, none⟩) fs.length cap ∧ fs.length ≤ cap ∧ b < w.heap.size ∧ ∀ i, i < fs.length → w.cell? ⟨b, off + i, none⟩ = some (.int .i64 (fs.getD i 0)) := by
  obtain ⟨h1, h2, ⟨rfl, -⟩ | ⟨h0, h3⟩⟩ := h
  · simp at h0
  · exact h3
abbrev numv (ks : List Int) : List Value := ks.map fun k => Value.int .i64 k
theorem infNum : (Tryd.prog.info? 3).map (fun i => (i.zero, i.size, i.bytes)) = some (some (.int .i64 0), 1, 8) := by kernel_rfl
/-- An own row of numbers. -/
theorem Nums.ofRow {w : World} {base : Nat} {v : Value} {ks : List Int} (h : w.ownsRow base 3 1 v ks.length (numv ks)) (hk : ∀ x ∈ ks, -9223372036854775808 ≤ x ∧ x ≤ 9223372036854775807) (hl : ks.length ≤ 140737488355328) : Nums w v ks := by
  have hc := h
  obtain ⟨h1, ⟨e, h0⟩ | ⟨g, cap, cur, rfl, hg, hh, hcap, r⟩⟩ := h
  · have := List.eq_nil_of_length_eq_zero h0
    exact ⟨hk, hl, .inl ⟨this, .inl e⟩⟩
  · by_cases h0 : ks.length = 0
    · refine ⟨hk, hl, .inl ⟨List.eq_nil_of_length_eq_zero h0, .inr ⟨_, cap, by rw [h0]⟩⟩⟩
    · refine ⟨hk, hl, .inr ⟨by omega, g, 0, cap, rfl, hcap, lt_of_block hh, fun i hi => ?_⟩⟩
      have h2 := hc.cells (g := g) rfl i (.int .i64 (ks.getD i 0)) (by simp [numv, hi])
      have e : (⟨g, 0, none⟩ : Addr).add i = ⟨g, 0 + i, none⟩ := addr_add g 0 i
      rw [e] at h2
      exact h2
/-- Numbers are put behind none. -/
theorem exec_clone {w : World} {o : Oper} {ρ : Operand → Value} {g : Nat} {u : Value} {ks : List Int} {x y : Operand} (ho : o.op = .call { callee := .builtin .append, args := #[x, y], argTypes := #[23, 23] }) (hx : ρ x = .slice (some ⟨g, 0, none⟩) 0 0) (hg : Blk w g 3 []) (hy : ρ y = u) (hu : Nums w u ks) (hl : ks.length ≤ 100000) :
    ∃ v' w', (execOp ρ o).run Tryd.prog w = .ok (.value v') w' ∧ Nums w' v' ks ∧ (∀ k, v'.ownBlock = some k → k = g ∨ k = w.heap.size) ∧ But (· = g) w w' := by
  have hrow : w.ownsRow 0 3 1 (.slice (some ⟨g, 0, none⟩) 0 0) 0 [] := ⟨rfl, .inr ⟨g, 0, #[], rfl, Nat.zero_le _, hg, Nat.le_refl _, Nat.zero_le _, rfl, rfl⟩⟩
  have key : ∀ (ad : Addr) (c : Nat), u = .slice (some ad) ks.length c → (∀ j z, (numv ks)[j]? = some z → w.cell? (ad.add j) = some z) → ∃ v' w', (execOp ρ o).run Tryd.prog w = .ok (.value v') w' ∧ Nums w' v' ks ∧ (∀ k, v'.ownBlock = some k → k = g ∨ k = w.heap.size) ∧ But (· = g) w w' := fun ad c e hc => by
    obtain ⟨v', w', hr, ha⟩ := exec_append (news := numv ks) Tryd.underlying23 infNum rfl (by decide) ho hx hrow (hy.trans e) (by simp [numv]) hc (fun z hz => by obtain ⟨k, -, rfl⟩ := List.mem_map.1 hz; rfl) (by omega) (by decide)
    refine ⟨v', w', hr, Nums.ofRow (base := 0) (by have := ha.own; rw [List.nil_append, Nat.zero_add] at this; exact this) hu.1 hu.2.1, fun k hk => ?_, ha.but.mono (fun b _ e => by
      have e' : some g = some b := e
      exact (Option.some.inj e').symm)⟩
    rcases ha.at' with e2 | e2
    · rw [e2] at hk
      have hk' : some g = some k := hk
      exact .inl (Option.some.inj hk').symm
    · rw [e2] at hk
      exact .inr (Option.some.inj hk).symm
  obtain ⟨h1, h2, ⟨rfl, e | ⟨a, cap, e⟩⟩ | ⟨h0, b, off, cap, e, hcap, hb, hc⟩⟩ := hu
  · obtain ⟨i0, hi, hz0, hz1, hz2⟩ := info_parts infNum
    have hrun := run_append_owned_none (P := Tryd.prog) w 0 23 o.type 3 i0 1 Tryd.underlying23 hi _ 0 [] hrow
    refine ⟨.slice (some ⟨g, 0, none⟩) 0 0, w, ?_, ⟨h1, h2, .inl ⟨rfl, .inr ⟨⟨g, 0, none⟩, 0, rfl⟩⟩⟩, fun k hk => ?_, But.refl _ _⟩
    · unfold execOp
      simp only [ho, resolve, invoke, builtin, Sem.run_bind, Sem.run_pure, Result.andThen_ok, List.map_toArray, List.map_cons, List.map_nil, hx, hy, e, hrun]
    · have hk' : some g = some k := hk
      exact .inl (Option.some.inj hk').symm
  · exact key a cap e (fun j z hz => by simp [numv] at hz)
  · refine key ⟨b, off, none⟩ cap e (fun j z hz => ?_)
    have hj : j < ks.length := by
      rcases Nat.lt_or_ge j ks.length with h | h
      · exact h
      · rw [List.getElem?_eq_none (by simpa [numv] using h)] at hz; cases hz
    rw [addr_add, hc j hj, ← hz]
    simp [numv, hj]
theorem i64slice : Tryd.prog.underlying 23 = some (.slice (Tryd.prog.elem 23)) := by kernel_rfl
/-- A slice from its second number on. -/
theorem cut_one {b off n cap : Nat} (hc : n + 1 ≤ cap) : ∃ A c, (∀ w0 : World, (Instr.sliceAt 23 (.slice (some ⟨b, off, none⟩) (n + 1) cap) (some (.int .i64 1)) none none).run Tryd.prog w0 = .ok (.slice (some A) n c) w0) ∧ (0 < n → A = ⟨b, off + 1, none⟩) := by
  have he : Tryd.prog.elem 23 = 3 := by kernel_rfl
  have hs : ∀ w0 : World, (sizeOf 3).run Tryd.prog w0 = .ok 1 w0 := fun w0 => by kernel_rfl
  refine ⟨if cap = 1 then ⟨b, off, none⟩ else ⟨b, off + 1, none⟩, cap - 1, fun w0 => ?_, fun h => by rw [if_neg (by omega)]⟩
  rw [run_sliceAt_slice _ _ _ _ _ _ i64slice, run_slice_l w0 _ _ _ _ i64slice .i64 1 (by omega) (by omega), he, hs]
  by_cases hcn : cap = 1 <;> simp [Result.andThen, sliced, hcn, Addr.add]
section
variable {H : Type} {enc : TypeId × Value → H} {P : Program} {w : World} {base : Nat} {spare : Nat → Bool} {held : Bool}
theorem view_nums {t e : TypeId} {v : Value} {d : DataW H} {ps : List MemPlace} {r : Reach} {b0 : Nat} {ts : List TypeId} {ds : List (DataW H)} {j : Nat}
    (hu : P.underlying t = some (.slice e)) (hf : P.underlying e = some (.int .i64)) (hc : P.cellsOf e = 1) (hb : P.bytesOf e = 8)
    (hval : Value.okWide P w r b0 t v) (h : DataW.Trod enc P w base spare held t v d ps) (hlt : ∀ x ∈ ps, x.block < w.heap.size)
    (hsz : (DataW.weightsEach P ts ds).all (· ≤ reachBytes) = true) (ht : ts[j]? = some t) (hd : ds[j]? = some d) : ∃ fs, Nums w v fs := by
  obtain ⟨a0, len, cap, rfl⟩ := okWide_slice hu hval
  obtain ⟨fuel, hf1⟩ := h
  rcases open_slice1 hu hc hf1 with ⟨hcs, _⟩ | ⟨a, len', cap', m, n, V, D, Pl, hcs, _, hl, hm, hmm, hx, hcell⟩
  · simp [Value.cells] at hcs
    obtain ⟨rfl, rfl, rfl⟩ := hcs
    exact ⟨[], nofun, by simp, .inl ⟨rfl, .inl rfl⟩⟩
  · simp [Value.cells] at hcs
    obtain ⟨rfl, rfl, rfl⟩ := hcs
    simp only [Prod.mk.injEq] at hx
    obtain ⟨rfl, rfl⟩ := hx
    have hlm : len ≤ m := by rw [hmm]; split <;> omega
    have hreach : len * 8 ≤ 140737488351232 := by
      have := sized_slice hsz ht hd hu
      rw [hb] at this
      simp only [List.length_map, List.length_range, reachBytes] at this
      omega
    have hfl : ∀ i, i < len → ∃ b : Int, V i = .int .i64 b ∧ -9223372036854775808 ≤ b ∧ b ≤ 9223372036854775807 := by
      intro i hi
      obtain ⟨b, hb1, _, hw0⟩ := DataW.trod_int hf (hcell i (by omega)).2
      have h8 : IntKind.i64.min ≤ b ∧ b ≤ IntKind.i64.max := by simpa [Lit.wf, go_sem] using hw0
      have e1 : IntKind.i64.min = -9223372036854775808 := rfl
      have e2 : IntKind.i64.max = 9223372036854775807 := rfl
      simp only [List.cons.injEq, and_true] at hb1
      exact ⟨b, hb1, by omega, by omega⟩
    obtain ⟨B, hB⟩ := choose_lt (α := Int) (p := fun i b => V i = .int .i64 b ∧ -9223372036854775808 ≤ b ∧ b ≤ 9223372036854775807) hfl
    refine ⟨(List.range len).map B, ?_, by simp; omega, ?_⟩
    · intro z hz
      obtain ⟨i, hi, rfl⟩ := List.mem_map.1 hz
      exact (hB i (by simpa using hi)).2
    · by_cases h0 : len = 0
      · subst h0; exact .inl ⟨by simp, .inr ⟨_, _, rfl⟩⟩
      · right
        obtain ⟨b, off, spot⟩ := a
        have hspot : spot = none := by simpa [Addr.add] using World.cell?_spot (hcell 0 (by omega)).1
        subst hspot
        refine ⟨by simp; omega, b, off, cap, by simp, by simpa using hl, hlt (.cell b off) (List.mem_append_left _ (MemPlace.mem_row.2 ⟨0, by omega, by simp⟩)), ?_⟩
        intro i hi
        have hi' : i < len := by simpa using hi
        rw [← add_plain, (hcell i (by omega)).1, (hB i hi').1]
        simp [hi']
end
end Go.Proofs.YtmlladpmecclbaaDoor
/- General: own rows that are stored into, or cut short. -/
namespace Go.Proofs.YtmlladpmecclbaaDoor
open Go.RowKit

section
variable {w : World} {g : Nat}
theorem RowOf.blk {Fr : Nat → Prop} {e s n cap : Nat} {L : List Value} (h : RowOf w Fr e s (.slice (some ⟨g, 0, none⟩) n cap) n L) : ∃ M, Blk w g e M ∧ L.length ≤ M.length := by
  obtain ⟨hl, ⟨h1, _⟩ | ⟨g', cap', cur, e, hge, hb, h1, h2, h3, h4⟩⟩ := h.own
  · rcases h1 with h1 | h1 <;> simp at h1
  · simp only [Value.slice.injEq, Option.some.injEq, Addr.mk.injEq, and_true] at e
    obtain ⟨rfl, -, rfl⟩ := e
    refine ⟨cur.toList, hb, ?_⟩
    rw [hl, Array.length_toList, h3]
    exact Nat.mul_le_mul_right _ h1
theorem RowOf.set {Fr : Nat → Prop} {e s n cap : Nat} {L : List Value} (h : RowOf w Fr e s (.slice (some ⟨g, 0, none⟩) n cap) n L) (i : Nat) (u : Value) : RowOf (w.setCell ⟨g, i, none⟩ u) Fr e s (.slice (some ⟨g, 0, none⟩) n cap) n (L.set i u) := by
  obtain ⟨hl, ⟨h1, _⟩ | ⟨g', cap', cur, e, hge, hb, h1, h2, h3, h4⟩⟩ := h.own
  · rcases h1 with h1 | h1 <;> simp at h1
  · simp only [Value.slice.injEq, Option.some.injEq, Addr.mk.injEq, and_true] at e
    obtain ⟨rfl, -, rfl⟩ := e
    have hb' : Blk w g e cur.toList := hb
    have h5 := hb'.set i u
    refine ⟨⟨by rw [List.length_set]; exact hl, .inr ⟨g, cap, (cur.toList.set i u).toArray, rfl, hge, h5, h1, h2, by simpa using h3, ?_⟩⟩, h.inF⟩
    show (cur.toList.set i u).take _ = _
    rw [List.take_set, h4]
/-- Cut short. -/
theorem RowOf.take {Fr : Nat → Prop} {e s n cap m : Nat} {L : List Value} (h : RowOf w Fr e s (.slice (some ⟨g, 0, none⟩) n cap) n L) (hm : m ≤ n) : RowOf w Fr e s (.slice (some ⟨g, 0, none⟩) m cap) m (L.take (m * s)) := by
  obtain ⟨hl, ⟨h1, _⟩ | ⟨g', cap', cur, e, hge, hb, h1, h2, h3, h4⟩⟩ := h.own
  · rcases h1 with h1 | h1 <;> simp at h1
  · simp only [Value.slice.injEq, Option.some.injEq, Addr.mk.injEq, and_true] at e
    obtain ⟨rfl, -, rfl⟩ := e
    have hms : m * s ≤ n * s := Nat.mul_le_mul_right _ hm
    refine ⟨⟨by rw [List.length_take, hl]; omega, .inr ⟨g, cap, cur, rfl, hge, hb, by omega, h2, h3, ?_⟩⟩, h.inF⟩
    rw [← h4, List.take_take, Nat.min_eq_left hms]
theorem RowOf.cap {Fr : Nat → Prop} {e s n cap : Nat} {L : List Value} (h : RowOf w Fr e s (.slice (some ⟨g, 0, none⟩) n cap) n L) : n ≤ cap ∧ cap ≤ maxLen := by
  obtain ⟨hl, ⟨h1, _⟩ | ⟨g', cap', cur, e, hge, hb, h1, h2, h3, h4⟩⟩ := h.own
  · rcases h1 with h1 | h1 <;> simp at h1
  · simp only [Value.slice.injEq, Option.some.injEq, Addr.mk.injEq, and_true] at e
    obtain ⟨rfl, -, rfl⟩ := e
    exact ⟨h1, h2⟩
end
/-- A cell of a row's element. -/
theorem RowOf.cellAt {α : Type} {f : α → List Value} {L : List α} {w : World} {Fr : Nat → Prop} {e s : Nat} {v : Value} (h : RowOf w Fr e s v L.length (L.flatMap f)) (hs : ∀ x ∈ L, (f x).length = s) {i : Nat} {x : α} (hi : L[i]? = some x) :
    ∃ g cap, v = .slice (some ⟨g, 0, none⟩) L.length cap ∧ Fr g ∧ ∀ c u, (f x)[c]? = some u → w.cell? ⟨g, i * s + c, none⟩ = some u := by
  obtain ⟨ao, cap, e1, h2⟩ := h.shape
  have hl : i < L.length := (List.getElem?_eq_some_iff.1 hi).1
  obtain ⟨g, rfl, h3, -, h5⟩ := h2 (by omega)
  exact ⟨g, cap, e1, h3, fun c u hu => h5 _ _ (flat_at L hs i x c u hi hu)⟩
theorem flat_len' {α : Type} {f : α → List Value} {s : Nat} : ∀ (L : List α), (∀ x ∈ L, (f x).length = s) → (L.flatMap f).length = L.length * s
  | [], _ => by simp
  | x :: L, h => by
    rw [List.flatMap_cons, List.length_append, h x List.mem_cons_self, flat_len' L (fun y hy => h y (List.mem_cons_of_mem _ hy)), List.length_cons, Nat.add_mul]; omega
theorem flat_setc {α : Type} {f : α → List Value} {s : Nat} {u : Value} {y : α} : ∀ (L : List α) (i c : Nat) (x : α), (∀ x ∈ L, (f x).length = s) → L[i]? = some x → c < s → f y = (f x).set c u → (L.flatMap f).set (i * s + c) u = (L.set i y).flatMap f
  | [], i, c, x, _, h, _, _ => by simp at h
  | z :: L, i, c, x, hl, h, hc, hy => by
    have hz := hl z List.mem_cons_self
    cases i with
    | zero =>
      obtain rfl : z = x := by simpa using h
      rw [List.flatMap_cons, List.set_cons_zero, List.flatMap_cons, Nat.zero_mul, Nat.zero_add, List.set_append_left _ _ (by omega), hy]
    | succ i =>
      have h' : L[i]? = some x := by simpa using h
      rw [List.flatMap_cons, List.set_cons_succ, List.flatMap_cons, List.set_append_right _ _ (by rw [hz, Nat.add_mul]; omega), hz, show (i + 1) * s + c - s = i * s + c by rw [Nat.add_mul]; omega,
        flat_setc L i c x (fun w hw => hl w (List.mem_cons_of_mem _ hw)) h' hc hy]
/-- A cell of a row's element is stored into. -/
theorem RowOf.setAt {α : Type} {f : α → List Value} {L : List α} {w : World} {Fr : Nat → Prop} {e s g cap i c : Nat} {u : Value} {x y : α} (h : RowOf w Fr e s (.slice (some ⟨g, 0, none⟩) L.length cap) L.length (L.flatMap f)) (hs : ∀ x ∈ L, (f x).length = s) (hi : L[i]? = some x) (hc : c < s) (hy : f y = (f x).set c u) :
    RowOf (w.setCell ⟨g, i * s + c, none⟩ u) Fr e s (.slice (some ⟨g, 0, none⟩) (L.set i y).length cap) (L.set i y).length ((L.set i y).flatMap f) := by
  have h1 := h.set (i * s + c) u
  rw [flat_setc L i c x hs hi hc hy] at h1
  rw [List.length_set]
  exact h1
/-- Where a row's element can be stored into. -/
theorem RowOf.spot {α : Type} {f : α → List Value} {L : List α} {w : World} {Fr : Nat → Prop} {e s g cap i c : Nat} {x : α} (h : RowOf w Fr e s (.slice (some ⟨g, 0, none⟩) L.length cap) L.length (L.flatMap f)) (hs : ∀ x ∈ L, (f x).length = s) (hi : L[i]? = some x) (hc : c < s) :
    (∃ u, w.cell? ⟨g, i * s + c, none⟩ = some u) ∧ w.frozen? ⟨g, i * s + c, none⟩ = false := by
  obtain ⟨M, hM, hl⟩ := h.blk
  have hil : i < L.length := (List.getElem?_eq_some_iff.1 hi).1
  rw [flat_len' L hs] at hl
  have h1 : i * s + c < M.length := by
    have : (i + 1) * s ≤ L.length * s := Nat.mul_le_mul_right _ (by omega)
    rw [Nat.add_mul] at this
    omega
  exact ⟨⟨_, by rw [hM.cell]; exact List.getElem?_eq_getElem h1⟩, hM.free _⟩
theorem own_sl {w : World} {base e s n : Nat} {v : Value} {xs : List Value} (h : w.ownsRow base e s v n xs) : ∃ a c, v = .slice a n c := by
  obtain ⟨-, ⟨rfl, rfl⟩ | ⟨g', c', cu, rfl, -⟩⟩ := h
  · exact ⟨none, 0, rfl⟩
  · exact ⟨_, _, rfl⟩
/-- The last one is put at a place, and the row cut short. -/
def rem {α : Type} (Z : List α) (a : Nat) (x : α) : List α := (Z.set a x).take (Z.length - 1)
theorem rem_perm {α : Type} {Z : List α} {a : Nat} {y x : α} (ha : Z[a]? = some y) (hx : Z[Z.length - 1]? = some x) : Z.Perm (y :: rem Z a x) := by
  have hl : a < Z.length := (List.getElem?_eq_some_iff.1 ha).1
  have h0 : Z ≠ [] := fun e => by rw [e] at hl; simp at hl
  obtain ⟨Y, z, rfl⟩ : ∃ Y z, Z = Y ++ [z] := ⟨Z.dropLast, Z.getLast h0, (List.dropLast_concat_getLast h0).symm⟩
  rw [List.length_append, List.length_singleton] at hx hl
  rw [show Y.length + 1 - 1 = Y.length by omega, List.getElem?_append_right (Nat.le_refl _), Nat.sub_self] at hx
  obtain rfl : z = x := by simpa using hx
  unfold rem
  rw [List.length_append, List.length_singleton, show Y.length + 1 - 1 = Y.length by omega]
  by_cases h1 : a < Y.length
  · rw [List.set_append_left _ _ h1, List.take_left' (by rw [List.length_set])]
    rw [List.getElem?_append_left h1] at ha
    have e1 : Y = Y.take a ++ y :: Y.drop (a + 1) := by
      have h3 := List.getElem?_eq_some_iff.1 ha
      rw [← h3.2, List.getElem_cons_drop, List.take_append_drop]
    have e2 : Y.set a z = Y.take a ++ z :: Y.drop (a + 1) := by rw [List.set_eq_take_append_cons_drop, if_pos h1]
    rw [e2]
    conv => lhs; rw [e1]
    refine (List.perm_append_comm (l₁ := Y.take a ++ y :: Y.drop (a + 1)) (l₂ := [z])).trans ?_
    refine (List.Perm.cons z List.perm_middle).trans ?_
    exact (List.Perm.swap y z _).trans (List.Perm.cons y List.perm_middle.symm)
  · have h2 : a = Y.length := by omega
    subst h2
    rw [List.getElem?_append_right (Nat.le_refl _), Nat.sub_self] at ha
    obtain rfl : z = y := by simpa using ha
    rw [List.set_append_right _ _ (Nat.le_refl _), Nat.sub_self, List.take_left' rfl]
    exact List.perm_append_comm
theorem rem_len {α : Type} {Z : List α} {a : Nat} {x : α} : (rem Z a x).length = Z.length - 1 := by unfold rem; rw [List.length_take, List.length_set]; omega
theorem rem_map {α β : Type} (f : α → β) (Z : List α) (a : Nat) (x : α) : (rem Z a x).map f = rem (Z.map f) a (f x) := by unfold rem; rw [List.map_take, List.map_set, List.length_map]
theorem rem_mem {α : Type} {Z : List α} {a : Nat} {x z : α} (hx : x ∈ Z) (h : z ∈ rem Z a x) : z ∈ Z := by
  unfold rem at h
  rcases List.mem_or_eq_of_mem_set (List.mem_of_mem_take h) with h | h
  · exact h
  · rw [h]; exact hx
end Go.Proofs.YtmlladpmecclbaaDoor
/- General: a slice from a place on. -/
namespace Go.Proofs.YtmlladpmecclbaaDoor
open Go.RowKit

theorem cut_from {T e : TypeId} {sz : Nat} (hu : Tryd.prog.underlying T = some (.slice (Tryd.prog.elem T))) (he : Tryd.prog.elem T = e) (hs : ∀ w0 : World, (sizeOf e).run Tryd.prog w0 = .ok sz w0) {b n cap k : Nat} (hk : k ≤ n) (hc : n ≤ cap) :
    ∃ A c, (∀ w0 : World, (Instr.sliceAt T (.slice (some ⟨b, 0, none⟩) n cap) (some (.int .i64 (k : Int))) none none).run Tryd.prog w0 = .ok (.slice (some A) (n - k) c) w0) ∧ (k < n → A = ⟨b, k * sz, none⟩) ∧ c = cap - k := by
  refine ⟨if cap = k then ⟨b, 0, none⟩ else ⟨b, k * sz, none⟩, cap - k, fun w0 => ?_, fun h => by rw [if_neg (by omega)], rfl⟩
  rw [run_sliceAt_slice _ _ _ _ _ _ hu, run_slice_l w0 _ _ _ _ hu .i64 (k : Int) (by omega) (by omega), he, hs]
  by_cases hcn : cap = k
  · simp [Result.andThen, sliced, hcn]
  · by_cases h0 : k * sz = 0
    · simp [Result.andThen, sliced, hcn, Addr.add, h0]
    · simp [Result.andThen, sliced, hcn, Addr.add, h0]
end Go.Proofs.YtmlladpmecclbaaDoor
/- General: numbers behind others, numbers cut; the reference's SameInts. -/
namespace Go.Proofs.YtmlladpmecclbaaDoor
open Go.RowKit

/-- Numbers are put behind an own row of some. -/
theorem exec_appendN {w : World} {o : Oper} {ρ : Operand → Value} {v u : Value} {n : Nat} {xs : List Value} {ks : List Int} {x y : Operand} (ho : o.op = .call { callee := .builtin .append, args := #[x, y], argTypes := #[23, 23] }) (hx : ρ x = v) (hv : w.ownsRow 0 3 1 v n xs) (hy : ρ y = u) (hu : Nums w u ks) (hn : n + ks.length ≤ 1000000) :
    ∃ v' w', (execOp ρ o).run Tryd.prog w = .ok (.value v') w' ∧ Appd w w' 3 1 v v' (n + ks.length) (xs ++ numv ks) := by
  have key : ∀ (ad : Addr) (c : Nat), u = .slice (some ad) ks.length c → (∀ j z, (numv ks)[j]? = some z → w.cell? (ad.add j) = some z) → ∃ v' w', (execOp ρ o).run Tryd.prog w = .ok (.value v') w' ∧ Appd w w' 3 1 v v' (n + ks.length) (xs ++ numv ks) := fun ad c e hc =>
    exec_append (news := numv ks) Tryd.underlying23 infNum rfl (by decide) ho hx hv (hy.trans e) (by simp [numv]) hc (fun z hz => by obtain ⟨k, -, rfl⟩ := List.mem_map.1 hz; rfl) hn (by decide)
  obtain ⟨h1, h2, ⟨rfl, e | ⟨a, cap, e⟩⟩ | ⟨h0, b, off, cap, e, hcap, hb, hc⟩⟩ := hu
  · obtain ⟨i0, hi, hz0, hz1, hz2⟩ := info_parts infNum
    have hrun := run_append_owned_none (P := Tryd.prog) w 0 23 o.type 3 i0 1 Tryd.underlying23 hi v n xs hv
    refine ⟨v, w, ?_, ⟨by simpa [numv] using hv, But.refl _ _, .inl rfl, fun k hk => ?_⟩⟩
    · unfold execOp
      simp only [ho, resolve, invoke, builtin, Sem.run_bind, Sem.run_pure, Result.andThen_ok, List.map_toArray, List.map_cons, List.map_nil, hx, hy, e, hrun]
    · obtain ⟨-, ⟨rfl, -⟩ | ⟨g, c, cu, rfl, -, hb, -⟩⟩ := hv
      · cases hk
      · cases hk; exact lt_of_block hb
  · exact key a cap e (fun j z hz => by simp [numv] at hz)
  · refine key ⟨b, off, none⟩ cap e (fun j z hz => ?_)
    have hj : j < ks.length := by
      rcases Nat.lt_or_ge j ks.length with h | h
      · exact h
      · rw [List.getElem?_eq_none (by simpa [numv] using h)] at hz; cases hz
    rw [addr_add, hc j hj, ← hz]
    simp [numv, hj]
/-- An own row of numbers, cut in two. -/
theorem nums_cut {w : World} {v : Value} {ks : List Int} (h : w.ownsRow 0 3 1 v ks.length (numv ks)) (hi : ∀ x ∈ ks, -9223372036854775808 ≤ x ∧ x ≤ 9223372036854775807) (hl : ks.length ≤ 1000000) {a : Nat} (ha : a ≤ ks.length) :
    ∃ lo hi', (∀ w0 : World, (Instr.sliceAt 23 v none (some (.int .i64 (a : Int))) none).run Tryd.prog w0 = .ok lo w0) ∧ (∀ w0 : World, (Instr.sliceAt 23 v (some (.int .i64 (a : Int))) none none).run Tryd.prog w0 = .ok hi' w0) ∧ Nums w lo (ks.take a) ∧ Nums w hi' (ks.drop a) := by
  have hcells := h
  obtain ⟨h1, ⟨rfl, h0⟩ | ⟨g, cap, cur, rfl, hg, hh, hcap, hm, r⟩⟩ := h
  · have hk : ks = [] := List.eq_nil_of_length_eq_zero h0
    subst hk
    obtain rfl : a = 0 := by simpa using ha
    refine ⟨.slice none 0 0, .slice none 0 0, fun w0 => by kernel_rfl, fun w0 => by kernel_rfl, ⟨(fun x hx => by simp at hx), by simp, .inl ⟨rfl, .inl rfl⟩⟩, ⟨(fun x hx => by simp at hx), by simp, .inl ⟨rfl, .inl rfl⟩⟩⟩
  · obtain ⟨A, c, hcut, hA, hcc⟩ := cut_from (T := 23) (e := 3) (sz := 1) i64slice (by kernel_rfl) (fun w0 => by kernel_rfl) (b := g) (n := ks.length) (cap := cap) (k := a) ha hcap
    have hcell : ∀ i, i < ks.length → w.cell? ⟨g, i, none⟩ = some (.int .i64 (ks.getD i 0)) := fun i hi => by
      have h2 := hcells.cells (g := g) rfl i (.int .i64 (ks.getD i 0)) (by simp [numv, hi])
      have e : (⟨g, 0, none⟩ : Addr).add i = ⟨g, 0 + i, none⟩ := addr_add g 0 i
      rw [e, Nat.zero_add] at h2
      exact h2
    refine ⟨.slice (some ⟨g, 0, none⟩) a cap, _, fun w0 => ?_, hcut, ⟨fun x hx => hi x (List.mem_of_mem_take hx), by rw [List.length_take]; omega, ?_⟩, ⟨fun x hx => hi x (List.mem_of_mem_drop hx), by rw [List.length_drop]; omega, ?_⟩⟩
    · rw [run_sliceAt_slice _ _ _ _ _ _ i64slice, run_slice_h w0 _ _ _ _ i64slice .i64 (a : Int) (by omega) (by omega), show Tryd.prog.elem 23 = 3 by kernel_rfl, show (sizeOf 3).run Tryd.prog w0 = .ok 1 w0 by kernel_rfl]
      simp [sliced, Result.andThen, Addr.add]
    · by_cases h0 : a = 0
      · subst h0
        exact .inl ⟨by simp, .inr ⟨_, _, rfl⟩⟩
      · refine .inr ⟨by rw [List.length_take]; omega, g, 0, cap, by rw [List.length_take, Nat.min_eq_left ha], by rw [List.length_take]; omega, lt_of_block hh, fun i hi => ?_⟩
        rw [List.length_take] at hi
        rw [Nat.zero_add, hcell i (by omega), List.getD_eq_getElem?_getD, List.getD_eq_getElem?_getD, List.getElem?_take, if_pos (by omega)]
    · by_cases h0 : a < ks.length
      · rw [hA h0]
        refine .inr ⟨by rw [List.length_drop]; omega, g, a * 1, c, by rw [List.length_drop], ?_, lt_of_block hh, fun i hi => ?_⟩
        · rw [List.length_drop]; omega
        · rw [List.length_drop] at hi
          rw [Nat.mul_one, hcell (a + i) (by omega), List.getD_eq_getElem?_getD, List.getD_eq_getElem?_getD, List.getElem?_drop]
      · rw [show ks.length - a = 0 by omega]
        exact .inl ⟨by rw [List.drop_eq_nil_iff]; omega, .inr ⟨_, _, rfl⟩⟩
end Go.Proofs.YtmlladpmecclbaaDoor
/- A map in memory that holds what is on a list: look-ups, updates, deletes, ranges. -/
namespace Go.Proofs.YtmlladpmecclbaaDoor
open Go.RowKit Go.Maps

/-- The map in block b has, for each x of the list, the key kv x with the element vv x; nothing else. -/
def MapOf {α : Type} (kt : TypeId) (w : World) (b : Nat) (kv vv : α → Value) (l : List α) : Prop :=
  ∃ M, Mq Tryd.prog kt w b M ∧ (∀ p ∈ M, ∃ x ∈ l, p = (kv x, vv x)) ∧ ∀ x ∈ l, (kv x, vv x) ∈ M
section
variable {α : Type} {kt et t : TypeId} {w w' : World} {b : Nat} {kv vv vv' : α → Value} {l l' : List α} {R : Nat → Prop}
theorem MapOf.lt (h : MapOf kt w b kv vv l) : b < w.heap.size := by obtain ⟨M, h1, -⟩ := h; exact h1.lt
theorem MapOf.but (h : MapOf kt w b kv vv l) (k : But R w w') (hr : ¬ R b) : MapOf kt w' b kv vv l := by
  obtain ⟨M, h1, h2, h3⟩ := h
  exact ⟨M, h1.but k hr, h2, h3⟩
theorem MapOf.grow (h : MapOf kt w b kv vv l) (k : Grow w w') : MapOf kt w' b kv vv l := h.but k (fun h => h)
theorem MapOf.mem (h : MapOf kt w b kv vv l) (hm : ∀ x, x ∈ l ↔ x ∈ l') : MapOf kt w b kv vv l' := by
  obtain ⟨M, h1, h2, h3⟩ := h
  refine ⟨M, h1, fun p hp => ?_, fun x hx => h3 x ((hm x).2 hx)⟩
  obtain ⟨x, hx, e⟩ := h2 p hp
  exact ⟨x, (hm x).1 hx, e⟩
theorem MapOf.congr (h : MapOf kt w b kv vv l) (hv : ∀ x ∈ l, vv x = vv' x) : MapOf kt w b kv vv' l := by
  obtain ⟨M, h1, h2, h3⟩ := h
  refine ⟨M, h1, fun p hp => ?_, fun x hx => ?_⟩
  · obtain ⟨x, hx, e⟩ := h2 p hp
    exact ⟨x, hx, by rw [← hv x hx]; exact e⟩
  · rw [← hv x hx]; exact h3 x hx
theorem MapOf.new (g : Nat) (h : w.heap.size = g) (kv vv : α → Value) : MapOf kt (w.alloc (.map #[] 0)) g kv vv [] :=
  ⟨[], Mq.new g h, fun _ hp => absurd hp List.not_mem_nil, fun _ hx => absurd hx List.not_mem_nil⟩
theorem MapOf.look (K : Keyed Tryd.prog kt) (ht : Tryd.prog.underlying t = some (.map kt et)) {z : Value} (hz : ∀ w, (zeroValue et).run Tryd.prog w = .ok z w) (h : MapOf kt w b kv vv l) {key : Value} {lt : Lit} (hkey : keyOf Tryd.prog kt key = some lt) (c : Bool) :
    (∀ x ∈ l, kv x = key → (Instr.lookup t (.map (some b)) key c).run Tryd.prog w = .ok (if c then .tuple #[vv x, .bool true] else vv x) w) ∧ ((∀ x ∈ l, kv x ≠ key) → (Instr.lookup t (.map (some b)) key c).run Tryd.prog w = .ok (if c then .tuple #[z, .bool false] else z) w) := by
  obtain ⟨M, h1, h2, h3⟩ := h
  have hl := h1.look (t := t) (et := et) K ht (hz w) hkey c
  refine ⟨fun x hx e => ?_, fun hn => hl.2 (fun p hp e => ?_)⟩
  · refine hl.1 _ ?_
    rw [← e]; exact h3 x hx
  · obtain ⟨x, hx, e2⟩ := h2 p hp
    exact hn x hx (by rw [← e, e2])
theorem MapOf.put (K : Keyed Tryd.prog kt) (ht : Tryd.prog.underlying t = some (.map kt et)) (h : MapOf kt w b kv vv l) (x : α) {lt : Lit} (hkey : keyOf Tryd.prog kt (kv x) = some lt) (hx : ∀ y ∈ l, kv y ≠ kv x) :
    ∃ w', (Instr.mapUpdate t (.map (some b)) (kv x) (vv x)).run Tryd.prog w = .ok () w' ∧ MapOf kt w' b kv vv (l ++ [x]) ∧ But (· = b) w w' ∧ w'.heap.size = w.heap.size := by
  obtain ⟨M, h1, h2, h3⟩ := h
  obtain ⟨w', M', hr, hM, hb, hs, hin, hot⟩ := h1.put (t := t) (et := et) (v := vv x) K ht hkey
  refine ⟨w', hr, ⟨M', hM, fun p hp => ?_, fun y hy => ?_⟩, hb, hs⟩
  · by_cases hk : p.1 = kv x
    · have hpv : p.2 = vv x := hM.uniq (k := kv x) (by rw [← hk]; exact hp) hin
      exact ⟨x, List.mem_append_right _ List.mem_cons_self, by rw [← hk, ← hpv]⟩
    · obtain ⟨y, hy, e⟩ := h2 p ((hot p.1 p.2 hk).1 hp)
      exact ⟨y, List.mem_append_left _ hy, e⟩
  · rcases List.mem_append.1 hy with hy | hy
    · exact (hot _ _ (hx y hy)).2 (h3 y hy)
    · rw [show y = x by simpa using hy]; exact hin
theorem MapOf.del (K : Keyed Tryd.prog kt) (ht : Tryd.prog.underlying t = some (.map kt et)) (h : MapOf kt w b kv vv l) {key : Value} {lt : Lit} (hkey : keyOf Tryd.prog kt key = some lt) (hl : ∀ x, x ∈ l' ↔ x ∈ l ∧ kv x ≠ key) (ty : TypeId) :
    ∃ w', (Builtin.delete_ #[t, kt] ty #[.map (some b), key]).run Tryd.prog w = .ok (.tuple #[]) w' ∧ MapOf kt w' b kv vv l' ∧ But (· = b) w w' ∧ w'.heap.size = w.heap.size := by
  obtain ⟨M, h1, h2, h3⟩ := h
  obtain ⟨w', M', hr, hM, hb, hs, hot⟩ := h1.del (t := t) (et := et) K ht hkey ty
  refine ⟨w', hr, ⟨M', hM, fun p hp => ?_, fun y hy => ?_⟩, hb, hs⟩
  · obtain ⟨h6, h7⟩ := (hot p.1 p.2).1 hp
    obtain ⟨x, hx, e⟩ := h2 p h6
    exact ⟨x, (hl x).2 ⟨hx, fun e2 => h7 (by rw [e]; exact e2)⟩, e⟩
  · obtain ⟨h6, h7⟩ := (hl y).1 hy
    exact (hot _ _).2 ⟨h3 y h6, h7⟩
theorem nodup_len {β : Type} : ∀ {l m : List β}, l.Nodup → (∀ x ∈ l, x ∈ m) → l.length ≤ m.length := by
  intro l
  induction l with
  | nil => intro m _ _; exact Nat.zero_le _
  | cons x l ih =>
    intro m hn hm
    rw [List.nodup_cons] at hn
    have hx := hm x List.mem_cons_self
    obtain ⟨m1, m2, rfl⟩ := List.append_of_mem hx
    have := ih (m := m1 ++ m2) hn.2 (fun y hy => by
      have h1 := hm y (List.mem_cons_of_mem _ hy)
      rcases List.mem_append.1 h1 with h2 | h2
      · exact List.mem_append_left _ h2
      · rcases List.mem_cons.1 h2 with h3 | h3
        · exact absurd (by rw [← h3]; exact hy) hn.1
        · exact List.mem_append_right _ h3)
    rw [List.length_append] at this ⊢
    rw [List.length_cons, List.length_cons]
    omega
theorem MapOf.keys {M : List (Value × Value)} (h1 : Mq Tryd.prog kt w b M) : (M.map (·.1)).Nodup := List.pairwise_map.2 h1.apart
theorem MapOf.size {M : List (Value × Value)} (h1 : Mq Tryd.prog kt w b M) (h2 : ∀ p ∈ M, ∃ x ∈ l, p = (kv x, vv x)) (h3 : ∀ x ∈ l, (kv x, vv x) ∈ M) (hn : (l.map kv).Nodup) : M.length = l.length := by
  have a1 := nodup_len (m := l.map kv) (MapOf.keys h1) (fun x hx => by
    obtain ⟨p, hp, rfl⟩ := List.mem_map.1 hx
    obtain ⟨y, hy, e⟩ := h2 p hp
    exact List.mem_map.2 ⟨y, hy, by rw [e]⟩)
  have a2 := nodup_len (m := M.map (·.1)) hn (fun x hx => by
    obtain ⟨y, hy, rfl⟩ := List.mem_map.1 hx
    exact List.mem_map.2 ⟨_, h3 y hy, rfl⟩)
  rw [List.length_map, List.length_map] at a1 a2
  omega
theorem MapOf.len (ht : Tryd.prog.underlying t = some (.map kt et)) (h : MapOf kt w b kv vv l) (hn : (l.map kv).Nodup) (ty : TypeId) : (Builtin.len_ #[t] ty #[.map (some b)]).run Tryd.prog w = .ok (.int .i64 (l.length : Int)) w := by
  obtain ⟨M, h1, h2, h3⟩ := h
  rw [← MapOf.size h1 h2 h3 hn]
  exact h1.len ht ty
theorem nodup_map {β : Type} {f : α → β} {l : List α} (hf : ∀ x ∈ l, ∀ y ∈ l, f x = f y → x = y) (h : l.Nodup) : (l.map f).Nodup :=
  List.pairwise_map.2 (h.imp_of_mem (fun hx hy hne e => hne (hf _ hx _ hy e)))
/-- A map that is ranged over: these of the list are still to come. -/
structure Ranged {α : Type} (kt : TypeId) (w : World) (r b : Nat) (kv vv : α → Value) (l lf : List α) : Prop where
  ex : ∃ M L, Mq Tryd.prog kt w b M ∧ Rg w r b M L ∧ (∀ p ∈ M, ∃ x ∈ l, p = (kv x, vv x)) ∧ (∀ x ∈ l, (kv x, vv x) ∈ M) ∧ L.Perm (lf.map (fun x => (kv x, vv x)))
  sub : ∀ x ∈ lf, x ∈ l
theorem Ranged.map {r : Nat} {lf : List α} (h : Ranged kt w r b kv vv l lf) : MapOf kt w b kv vv l := by
  obtain ⟨M, L, h1, -, h2, h3, -⟩ := h.ex
  exact ⟨M, h1, h2, h3⟩
theorem Ranged.lt {r : Nat} {lf : List α} (h : Ranged kt w r b kv vv l lf) : r < w.heap.size ∧ b < w.heap.size ∧ r ≠ b := by
  obtain ⟨M, L, -, h1, -⟩ := h.ex
  exact ⟨h1.lt.1, h1.lt.2, h1.ne⟩
theorem Ranged.but {r : Nat} {lf : List α} (h : Ranged kt w r b kv vv l lf) (k : But R w w') (h1 : ¬ R r) (h2 : ¬ R b) : Ranged kt w' r b kv vv l lf := by
  obtain ⟨M, L, g1, g2, g3⟩ := h.ex
  exact ⟨⟨M, L, g1.but k h2, g2.but k h1 h2, g3⟩, h.sub⟩
theorem Ranged.grow {r : Nat} {lf : List α} (h : Ranged kt w r b kv vv l lf) (k : Grow w w') : Ranged kt w' r b kv vv l lf := h.but k (fun h => h) (fun h => h)
theorem Ranged.left {r : Nat} {lf : List α} (h : Ranged kt w r b kv vv l lf) : leftN w r b = lf.length := by
  obtain ⟨M, L, -, h1, -, -, h2⟩ := h.ex
  rw [h1.left, h2.length_eq, List.length_map]
theorem MapOf.range (ht : Tryd.prog.underlying t = some (.map kt et)) (h : MapOf kt w b kv vv l) (hn : (l.map kv).Nodup) : ∃ w', (Instr.range t (.map (some b))).run Tryd.prog w = .ok (.pointer (some ⟨w.heap.size, 0, none⟩)) w' ∧ Grow w w' ∧ w'.heap.size = w.heap.size + 1 ∧ Ranged kt w' w.heap.size b kv vv l l := by
  obtain ⟨M, h1, h2, h3⟩ := h
  obtain ⟨w', hr, hb, hs, hg⟩ := h1.range (t := t) (et := et) ht
  refine ⟨w', hr, hb, hs, ⟨M, M, h1.but hb (fun h => h), hg, h2, h3, ?_⟩, fun x hx => hx⟩
  refine (List.perm_ext_iff_of_nodup ?_ ?_).2 (fun p => ⟨fun hp => ?_, fun hp => ?_⟩)
  · exact h1.apart.imp (fun h e => h (by rw [e]))
  · have : ((l.map fun x => (kv x, vv x)).map (·.1)).Nodup := by rw [List.map_map]; exact hn
    exact (List.pairwise_map.1 this).imp (fun h e => h (by rw [e]))
  · obtain ⟨x, hx, e⟩ := h2 p hp
    exact List.mem_map.2 ⟨x, hx, e.symm⟩
  · obtain ⟨x, hx, rfl⟩ := List.mem_map.1 hp
    exact h3 x hx
/-- The next one, whichever it is. -/
theorem Ranged.next {r : Nat} {lf : List α} (h : Ranged kt w r b kv vv l lf) (ty : TypeId) :
    (lf = [] ∧ (Instr.next (.pointer (some ⟨r, 0, none⟩)) false ty).run Tryd.prog w = .ok (.tuple #[.bool false]) w) ∨
    ∃ x lf' w', x ∈ l ∧ lf.Perm (x :: lf') ∧ (Instr.next (.pointer (some ⟨r, 0, none⟩)) false ty).run Tryd.prog w = .ok (.tuple #[.bool true, kv x, vv x]) w' ∧ But (· = r) w w' ∧ w'.heap.size = w.heap.size ∧ Ranged kt w' r b kv vv l lf' ∧ (Instr.entry (.pointer (some ⟨r, 0, none⟩))).run Tryd.prog w' = .ok (.tuple #[kv x, vv x]) w' := by
  obtain ⟨M, L, h1, h2, h3, h4, h5⟩ := h.ex
  have hne := h2.ne
  rcases h2.next (P := Tryd.prog) ty with ⟨rfl, hr⟩ | ⟨p, L', w', hp, hperm, hr, hb, hs, hg, hen⟩
  · left
    have := h5.length_eq
    rw [List.length_map] at this
    exact ⟨List.eq_nil_of_length_eq_zero (by simpa using this.symm), hr⟩
  · right
    have hpl : p ∈ lf.map (fun x => (kv x, vv x)) := h5.mem_iff.1 (hperm.mem_iff.2 List.mem_cons_self)
    obtain ⟨x, hx, rfl⟩ := List.mem_map.1 hpl
    have hxl := h.sub x hx
    have hsub := h.sub
    obtain ⟨l1, l2, rfl⟩ := List.append_of_mem hx
    have hpm : (l1 ++ x :: l2).Perm (x :: (l1 ++ l2)) := List.perm_middle
    have h6 : L'.Perm ((l1 ++ l2).map (fun x => (kv x, vv x))) := ((hperm.symm.trans h5).trans (hpm.map _)).cons_inv
    exact ⟨x, l1 ++ l2, w', hxl, hpm, hr, hb, hs, ⟨⟨M, L', h1.but hb (fun e => hne e.symm), hg, h3, h4, h6⟩, fun y hy => hsub y (hpm.mem_iff.2 (List.mem_cons_of_mem _ hy))⟩, hen⟩
/-- One that was handed out is taken out. -/
theorem Ranged.del {r : Nat} {lf : List α} (K : Keyed Tryd.prog kt) (ht : Tryd.prog.underlying t = some (.map kt et)) (h : Ranged kt w r b kv vv l lf) {x : α} (hx : x ∈ l) {lt : Lit} (hkey : keyOf Tryd.prog kt (kv x) = some lt) (hout : ∀ y ∈ lf, kv y ≠ kv x) (hl : ∀ y, y ∈ l' ↔ y ∈ l ∧ kv y ≠ kv x) (ty : TypeId) :
    ∃ w', (Builtin.delete_ #[t, kt] ty #[.map (some b), kv x]).run Tryd.prog w = .ok (.tuple #[]) w' ∧ Ranged kt w' r b kv vv l' lf ∧ But (· = b) w w' ∧ w'.heap.size = w.heap.size := by
  obtain ⟨M, L, h1, h2, h3, h4, h5⟩ := h.ex
  obtain ⟨w', M', hr, hM, hg, hb, hs, hot⟩ := Rg.del (t := t) (et := et) K ht h1 h2 hkey (h4 x hx) (fun u hu => by
    obtain ⟨y, hy, e⟩ := List.mem_map.1 (h5.mem_iff.1 hu)
    exact hout y hy (Prod.mk.inj e).1) ty
  refine ⟨w', hr, ⟨⟨M', L, hM, hg, fun p hp => ?_, fun y hy => ?_, h5⟩, fun y hy => (hl y).2 ⟨h.sub y hy, hout y hy⟩⟩, hb, hs⟩
  · obtain ⟨h6, h7⟩ := (hot p.1 p.2).1 hp
    obtain ⟨y, hy, e⟩ := h3 p h6
    exact ⟨y, (hl y).2 ⟨hy, fun e2 => h7 (by rw [e]; exact e2)⟩, e⟩
  · obtain ⟨h6, h7⟩ := (hl y).1 hy
    exact (hot _ _).2 ⟨h4 y h6, h7⟩
end
end Go.Proofs.YtmlladpmecclbaaDoor
/- plan: levels, paths, what a Commit writes, as numbers and lists; no code in it. -/
namespace Go.Proofs.YtmlladpmecclbaaDoor
open Go.RowKit

structure Pn where
  pages : Int
  budget : Int
  counters : Int
  levels : List Int
  nodes : Int
  head : Int
  heads : Int
  journal : Int
  spill : Int
  total : Int
def pcells (p : Pn) (v : Value) : List Value := [.int .i64 p.pages, .int .i64 p.budget, .int .i64 p.counters, v, .int .i64 p.nodes, .int .i64 p.head, .int .i64 p.heads, .int .i64 p.journal, .int .i64 p.spill, .int .i64 p.total]
abbrev pval (p : Pn) (v : Value) : Value := .agg (pcells p v).toArray
/-- How many parts of a size things begin. -/
def bg (n s : Nat) : Nat := (n + s - 1) / s
def lvN : Nat → Nat → List Nat
  | 0, m => [m]
  | k + 1, m => if m ≤ 1 then [m] else m :: lvN k (bg m 8)
def lvs (c : Nat) : List Nat := lvN 3 (bg c 8)
def toI (l : List Nat) : List Int := l.map (fun j => ((j : Nat) : Int))
theorem toI_len (l : List Nat) : (toI l).length = l.length := List.length_map ..
theorem lvN_one {k m : Nat} (h : m ≤ 1) : lvN k m = [m] := by
  cases k with
  | zero => rfl
  | succ k => unfold lvN; rw [if_pos h]
theorem lvN_more {k m : Nat} (h : ¬ m ≤ 1) : lvN (k + 1) m = m :: lvN k (bg m 8) := by
  rw [lvN, if_neg h]
theorem bg8 {m k : Nat} (h : m ≤ 8 ^ (k + 1)) : bg m 8 ≤ 8 ^ k := by
  unfold bg
  have : 8 ^ (k + 1) = 8 * 8 ^ k := by rw [Nat.pow_succ, Nat.mul_comm]
  omega
theorem bg_pos {m : Nat} (h : 1 ≤ m) : 1 ≤ bg m 8 := by unfold bg; omega
/-- The plan of so many pages and a budget. -/
def plan (n b : Nat) : Pn :=
  let c := bg n 16
  let nd := (lvs c).sum
  let hd := n + c + nd
  let hs := bg (12 + 4 * b) 256
  ⟨n, b, c, toI (lvs c), nd, hd, hs, (hd + hs : Nat), (hd + hs + b : Nat), (hd + hs + b + b : Nat)⟩
/-- Levels are of one of three shapes. -/
theorem lvs_shape {c : Nat} (h1 : 1 ≤ c) (h2 : c ≤ 256) : (c ≤ 8 ∧ lvs c = [1]) ∨ (8 < c ∧ c ≤ 64 ∧ lvs c = [bg c 8, 1]) ∨ (64 < c ∧ lvs c = [bg c 8, bg (bg c 8) 8, 1]) := by
  unfold lvs
  by_cases a : bg c 8 ≤ 1
  · left
    refine ⟨by unfold bg at a; omega, ?_⟩
    rw [lvN_one a, show bg c 8 = 1 by have := bg_pos h1; omega]
  · right
    rw [lvN_more a]
    by_cases b : bg (bg c 8) 8 ≤ 1
    · left
      refine ⟨by unfold bg at a; omega, by unfold bg at b; omega, ?_⟩
      rw [lvN_one b, show bg (bg c 8) 8 = 1 by have := bg_pos (bg_pos h1); omega]
    · right
      rw [lvN_more b]
      have d : bg (bg (bg c 8) 8) 8 = 1 := by unfold bg; omega
      refine ⟨by unfold bg at b; omega, ?_⟩
      rw [lvN_one (by omega), d]
end Go.Proofs.YtmlladpmecclbaaDoor
/- journal: heads as rows of bytes, made and read; no code in it. -/
namespace Go.Proofs.YtmlladpmecclbaaDoor
open Go.RowKit

/-- What a head says, as bytes. -/
def hdB (V : Nat) (l : List Nat) : List Nat := be V 8 ++ be l.length 4 ++ l.flatMap fun x => be x 4
theorem flat4_len : ∀ l : List Nat, (l.flatMap fun x => be x 4).length = 4 * l.length
  | [] => rfl
  | x :: l => by rw [List.flatMap_cons, List.length_append, be_len, flat4_len l, List.length_cons]; omega
theorem hdB_len (V : Nat) (l : List Nat) : (hdB V l).length = 12 + 4 * l.length := by
  unfold hdB
  rw [List.length_append, List.length_append, be_len, be_len, flat4_len]
theorem flat4_lt {l : List Nat} : ∀ z ∈ l.flatMap (fun x => be x 4), z < 256 := fun z hz => by
  obtain ⟨x, -, hx⟩ := List.mem_flatMap.1 hz
  exact be_lt _ _ z hx
theorem hdB_lt (V : Nat) (l : List Nat) : ∀ z ∈ hdB V l, z < 256 := fun z hz => by
  unfold hdB at hz
  rcases List.mem_append.1 hz with hz | hz
  · rcases List.mem_append.1 hz with hz | hz
    · exact be_lt _ _ z hz
    · exact be_lt _ _ z hz
  · exact flat4_lt z hz
/-- Block i of bytes, with bytes 00 behind them. -/
def cutB (b : List Nat) (i : Nat) : List Nat := (b.drop (256 * i)).take 256 ++ List.replicate (256 - ((b.drop (256 * i)).take 256).length) 0
def cutN (b : List Nat) (m : Nat) : List (List Nat) := (List.range m).map (cutB b)
def padB (b : List Nat) (m : Nat) : List Nat := b ++ List.replicate (256 * m - b.length) 0
theorem cutB_len (b : List Nat) (i : Nat) : (cutB b i).length = 256 := by
  unfold cutB
  rw [List.length_append, List.length_replicate]
  have : ((b.drop (256 * i)).take 256).length ≤ 256 := by rw [List.length_take]; omega
  omega
theorem cutB_lt {b : List Nat} (h : ∀ z ∈ b, z < 256) (i : Nat) : ∀ z ∈ cutB b i, z < 256 := fun z hz => by
  unfold cutB at hz
  rcases List.mem_append.1 hz with hz | hz
  · exact h z (List.mem_of_mem_drop (List.mem_of_mem_take hz))
  · rw [(List.mem_replicate.1 hz).2]; decide
theorem cutN_len (b : List Nat) (m : Nat) : (cutN b m).length = m := by simp [cutN]
theorem cutN_mem {b : List Nat} {m : Nat} : ∀ x ∈ cutN b m, x.length = 256 := fun x hx => by
  obtain ⟨i, -, rfl⟩ := List.mem_map.1 hx
  exact cutB_len b i
theorem cutN_get {b : List Nat} {m i : Nat} (h : i < m) : (cutN b m).getD i [] = cutB b i := by
  simp [cutN, List.getD, h]
theorem padB_len {b : List Nat} {m : Nat} (h : b.length ≤ 256 * m) : (padB b m).length = 256 * m := by
  unfold padB
  rw [List.length_append, List.length_replicate]; omega
theorem padB_cut {b : List Nat} {m i : Nat} (h : b.length ≤ 256 * m) (hi : i < m) : ((padB b m).drop (256 * i)).take 256 = cutB b i := by
  unfold padB cutB
  rw [List.drop_append, List.take_append, List.length_drop, List.drop_replicate, List.take_replicate]
  congr 2
  rw [List.length_take, List.length_drop]
  omega
theorem flat_cut : ∀ (m : Nat) (P : List Nat), 256 * m ≤ P.length → ((List.range m).map fun i => (P.drop (256 * i)).take 256).flatten = P.take (256 * m)
  | 0, P, _ => by simp
  | m + 1, P, h => by
    rw [List.range_succ, List.map_append, List.flatten_append, flat_cut m P (by omega), show 256 * (m + 1) = 256 * m + 256 by omega, List.take_add]
    simp
theorem cutN_flat {b : List Nat} {m : Nat} (h : b.length ≤ 256 * m) : (cutN b m).flatten = padB b m := by
  have e : cutN b m = (List.range m).map fun i => ((padB b m).drop (256 * i)).take 256 := by
    unfold cutN
    refine List.map_congr_left (fun i hi => (padB_cut h (List.mem_range.1 hi)).symm)
  rw [e, flat_cut m _ (by rw [padB_len h]; omega), List.take_of_length_le (by rw [padB_len h]; omega)]
theorem flat_len256 : ∀ (hs : List (List Nat)), (∀ x ∈ hs, x.length = 256) → hs.flatten.length = 256 * hs.length
  | [], _ => rfl
  | x :: hs, h => by
    rw [List.flatten_cons, List.length_append, h x List.mem_cons_self, flat_len256 hs (fun y hy => h y (List.mem_cons_of_mem _ hy)), List.length_cons]
    omega
/-- Numbers read out of bytes. -/
def jval (zs : List Nat) : Nat := zs.foldl (fun a z => 256 * a + z) 0
theorem jval_from (a : Nat) (zs : List Nat) : zs.foldl (fun a z => 256 * a + z) a = a * 256 ^ zs.length + jval zs := by
  unfold jval
  induction zs generalizing a with
  | nil => simp
  | cons z r ih =>
    simp only [List.foldl_cons, List.length_cons]
    rw [ih (256 * a + z), ih (256 * 0 + z), Nat.pow_succ]
    have e1 : (256 * a + z) * 256 ^ r.length = 256 * a * 256 ^ r.length + z * 256 ^ r.length := Nat.add_mul _ _ _
    have e2 : a * (256 ^ r.length * 256) = 256 * a * 256 ^ r.length := by rw [Nat.mul_comm (256 ^ r.length) 256, ← Nat.mul_assoc, Nat.mul_comm a 256]
    have e3 : (256 * 0 + z) * 256 ^ r.length = z * 256 ^ r.length := by rw [Nat.mul_zero, Nat.zero_add]
    omega
theorem jval_be (N k : Nat) : jval (be N k) = N % 256 ^ k := by
  induction k with
  | zero => simp [be, jval, Nat.mod_one]
  | succ k ih =>
    have e : jval (be N (k + 1)) = (N / 256 ^ k % 256) * 256 ^ k + N % 256 ^ k := by
      show (be N k).foldl (fun a z => 256 * a + z) (256 * 0 + N / 256 ^ k % 256) = _
      rw [jval_from, be_len, ih, Nat.mul_zero, Nat.zero_add]
    rw [e, Nat.pow_succ, Nat.mod_mul, Nat.mul_comm]
    omega
def jver (F : List Nat) : Nat := jval (F.take 8)
def jcnt (F : List Nat) : Nat := jval ((F.drop 8).take 4)
def jnum (F : List Nat) (i : Nat) : Nat := jval ((F.drop (12 + 4 * i)).take 4)
def jbls (F : List Nat) (n : Nat) : List Nat := (List.range n).map (jnum F)
theorem flat4_get : ∀ (l : List Nat) (R : List Nat) (i : Nat), i < l.length → (((l.flatMap fun x => be x 4) ++ R).drop (4 * i)).take 4 = be (l.getD i 0) 4
  | [], _, i, h => absurd h (by simp)
  | x :: l, R, 0, _ => by
    rw [Nat.mul_zero, List.drop_zero, List.flatMap_cons, List.append_assoc]
    exact List.take_left' (be_len _ _)
  | x :: l, R, i + 1, h => by
    rw [List.flatMap_cons, List.append_assoc, show 4 * (i + 1) = 4 + 4 * i by omega, ← List.drop_drop, List.drop_left' (be_len _ _)]
    exact flat4_get l R i (by simpa using h)
theorem hdB_read {V : Nat} {l R : List Nat} (hV : V < 18446744073709551616) (hl : l.length ≤ 65536) (hx : ∀ x ∈ l, x ≤ 65535) :
    jver (hdB V l ++ R) = V ∧ jcnt (hdB V l ++ R) = l.length ∧ jbls (hdB V l ++ R) l.length = l := by
  have e : hdB V l ++ R = be V 8 ++ (be l.length 4 ++ ((l.flatMap fun x => be x 4) ++ R)) := by unfold hdB; simp only [List.append_assoc]
  refine ⟨?_, ?_, ?_⟩
  · unfold jver
    rw [e, List.take_left' (be_len _ _), jval_be]
    exact Nat.mod_eq_of_lt (by simpa using hV)
  · unfold jcnt
    rw [e, List.drop_left' (be_len _ _), List.take_left' (be_len _ _), jval_be]
    exact Nat.mod_eq_of_lt (by omega)
  · unfold jbls
    apply List.ext_getElem (by simp)
    intro i h1 h2
    rw [List.getElem_map, List.getElem_range]
    unfold jnum
    rw [e, show 12 + 4 * i = 8 + (4 + 4 * i) by omega, ← List.drop_drop, List.drop_left' (be_len _ _), ← List.drop_drop, List.drop_left' (be_len _ _), flat4_get l R i h2, jval_be]
    have hm := hx l[i] (List.getElem_mem h2)
    rw [show l.getD i 0 = l[i] by simp [List.getD, h2]]
    exact Nat.mod_eq_of_lt (by omega)
/-- What Head makes is read so. -/
theorem head_read {V m b : Nat} {l : List Nat} {hs : List (List Nat)} (hV : V < 18446744073709551616) (hl : l.length ≤ b) (hb : b ≤ 256) (hm : 12 + 4 * b ≤ 256 * m) (hx : ∀ x ∈ l, x ≤ 65535) (h : cutN (hdB V l) m = hs) :
    jver hs.flatten = V ∧ jcnt hs.flatten = l.length ∧ jbls hs.flatten (min (jcnt hs.flatten) b) = l := by
  rw [← h, cutN_flat (by rw [hdB_len]; omega)]
  unfold padB
  obtain ⟨h1, h2, h3⟩ := hdB_read (R := List.replicate (256 * m - (hdB V l).length) 0) hV (by omega) hx
  refine ⟨h1, h2, ?_⟩
  rw [h2, Nat.min_eq_left hl]
  exact h3
/-- What Open answers, the budget being one: of what Head makes this head; or that there is none. -/
def OpIs (b m : Nat) (hs : List (List Nat)) (v : Nat) (l : List Nat) (e : Int) : Prop :=
  (e = 0 ∧ v < 18446744073709551616 ∧ l.length ≤ b ∧ (∀ x ∈ l, x ≤ 65535) ∧ cutN (hdB v l) m = hs) ∨
  (e = 3 ∧ v = 0 ∧ l = [] ∧ ∀ V L, V < 18446744073709551616 → L.length ≤ b → (∀ x ∈ L, x ≤ 65535) → cutN (hdB V L) m ≠ hs)
theorem OpIs.uniq {b m : Nat} {hs : List (List Nat)} {v v' : Nat} {l l' : List Nat} {e e' : Int} (hb : b ≤ 256) (hm : 12 + 4 * b ≤ 256 * m) (h : OpIs b m hs v l e) (k : OpIs b m hs v' l' e') : v = v' ∧ l = l' ∧ e = e' := by
  rcases h with ⟨a1, a2, a3, a4, a5⟩ | ⟨a1, a2, a3, a4⟩ <;> rcases k with ⟨b1, b2, b3, b4, b5⟩ | ⟨b1, b2, b3, b4⟩
  · obtain ⟨p1, -, p3⟩ := head_read a2 a3 hb hm a4 a5
    obtain ⟨q1, -, q3⟩ := head_read b2 b3 hb hm b4 b5
    exact ⟨p1.symm.trans q1, p3.symm.trans q3, a1.trans b1.symm⟩
  · exact absurd a5 (b4 v l a2 a3 a4)
  · exact absurd b5 (a4 v' l' b2 b3 b4)
  · exact ⟨a2.trans b2.symm, a3.trans b3.symm, a1.trans b1.symm⟩
theorem OpIs.form {b m : Nat} {hs : List (List Nat)} (h : hs.length ≠ m ∨ ∃ x ∈ hs, x.length ≠ 256) : OpIs b m hs 0 [] 3 := by
  refine .inr ⟨rfl, rfl, rfl, fun V L _ _ _ e => ?_⟩
  rcases h with h | ⟨x, hx, hn⟩
  · exact h (by rw [← e, cutN_len])
  · rw [← e] at hx
    exact hn (cutN_mem x hx)
/-- By the numbers that are read: OK just if they make it again. -/
theorem OpIs.read {b m : Nat} {hs : List (List Nat)} (hb : b ≤ 256) (hm : 12 + 4 * b ≤ 256 * m) (hv : jver hs.flatten < 18446744073709551616) :
    ((∀ x ∈ jbls hs.flatten (min (jcnt hs.flatten) b), x ≤ 65535) ∧ cutN (hdB (jver hs.flatten) (jbls hs.flatten (min (jcnt hs.flatten) b))) m = hs → OpIs b m hs (jver hs.flatten) (jbls hs.flatten (min (jcnt hs.flatten) b)) 0) ∧
    (¬ ((∀ x ∈ jbls hs.flatten (min (jcnt hs.flatten) b), x ≤ 65535) ∧ cutN (hdB (jver hs.flatten) (jbls hs.flatten (min (jcnt hs.flatten) b))) m = hs) → OpIs b m hs 0 [] 3) ∧
    (b < jcnt hs.flatten → OpIs b m hs 0 [] 3) := by
  refine ⟨fun ⟨h1, h2⟩ => .inl ⟨rfl, hv, by simp [jbls]; omega, h1, h2⟩, fun h => .inr ⟨rfl, rfl, rfl, fun V L q1 q2 q3 e => ?_⟩, fun h => .inr ⟨rfl, rfl, rfl, fun V L q1 q2 q3 e => ?_⟩⟩
  · obtain ⟨p1, -, p3⟩ := head_read q1 q2 hb hm q3 e
    refine h ⟨by rw [p3]; exact q3, ?_⟩
    rw [p1, p3]; exact e
  · obtain ⟨-, p2, -⟩ := head_read q1 q2 hb hm q3 e
    omega
/-- How many blocks a head has. -/
def hds (b : Nat) : Nat := bg (12 + 4 * b) 256
theorem hds_room (b : Nat) : 12 + 4 * b ≤ 256 * hds b := by unfold hds bg; omega
theorem hds_le {b : Nat} (h : b ≤ 256) : 1 ≤ hds b ∧ hds b ≤ 5 := by unfold hds bg; omega
end Go.Proofs.YtmlladpmecclbaaDoor
/- plan: begun, levels, Top, there. -/
namespace Go.Proofs.YtmlladpmecclbaaDoor
open Go.RowKit

theorem tdiv_nat (a b : Nat) : Int.tdiv (a : Int) (b : Int) = ((a / b : Nat) : Int) := (Int.ofNat_tdiv a b).symm
set_option maxRecDepth 100000 in
theorem begun_any (w : World) (n s : Nat) (h1 : n ≤ 100000) (h0 : 1 ≤ s) (h2 : s ≤ 100000) : Calls Tryd.prog 69 #[.int .i64 (n : Int), .int .i64 (s : Int)] w fun e w' => e = .returned (.int .i64 (bg n s : Int)) ∧ w' = w := by
  obtain ⟨N, hN⟩ : ∃ N : Int, N = (n : Int) := ⟨_, rfl⟩
  obtain ⟨S, hS⟩ : ∃ S : Int, S = (s : Int) := ⟨_, rfl⟩
  have hq : Int.tdiv (N + S - 1) S = (bg n s : Int) := by
    rw [hN, hS, show (n : Int) + (s : Int) - 1 = ((n + s - 1 : Nat) : Int) by omega, tdiv_nat]; rfl
  rw [← hN, ← hS]
  have hN0 : 0 ≤ N := by omega
  have hN1 : N ≤ 100000 := by omega
  have hS0 : 1 ≤ S := by omega
  have hS1 : S ≤ 100000 := by omega
  have hSn : ¬ S = 0 := by omega
  have hBb : (bg n s : Int) ≤ 200000 := by
    have : bg n s ≤ n + s - 1 := Nat.div_le_self _ _
    omega
  have hB0 : (0 : Int) ≤ (bg n s : Int) := by omega
  generalize (bg n s : Int) = B at hq hBb hB0
  clear hN hS
  go_enter Tryd.func69, Tryd.ntmps69
  go_wp2
  go_ret
  exact ⟨rfl, rfl⟩
/-- A plan in a box. -/
structure PBox (w : World) (p : Pn) (v : Value) (wb : World) (gp : Nat) : Prop where
  ew : wb = w.alloc (.cells (pcells p v).toArray 25)
  eg : gp = w.heap.size
  grow : Grow w wb
  blk : Blk wb gp 25 (pcells p v)
theorem box_pl (w : World) (p : Pn) (v : Value) : ∃ wb gp, PBox w p v wb gp :=
  ⟨_, _, rfl, rfl, (But.refl _ w).alloc _, Blk.new rfl⟩
theorem iPl : (Tryd.prog.info? 25).map (·.size) = some 10 := by kernel_rfl
/-- A sum, a difference, as the machine makes them. -/
def ad (a b : Int) : Int := IntKind.i64.wrap (a + b)
def sb (a b : Int) : Int := IntKind.i64.wrap (a - b)
theorem ad_ok {a b : Int} (h1 : -9223372036854775808 ≤ a + b) (h2 : a + b ≤ 9223372036854775807) : ad a b = a + b := wrapI h1 h2
theorem sb_ok {a b : Int} (h1 : -9223372036854775808 ≤ a - b) (h2 : a - b ≤ 9223372036854775807) : sb a b = a - b := wrapI h1 h2
def Pn.top (p : Pn) : Int := sb (ad (ad p.pages p.counters) p.nodes) 1
set_option maxRecDepth 100000 in
theorem top_any (w : World) (p : Pn) (v : Value) : Calls Tryd.prog 59 #[pval p v] w fun e w' => e = .returned (.int .i64 p.top) ∧ Grow w w' := by
  obtain ⟨wb, gp, hbx⟩ := box_pl w p v
  have HW := Hid.mk' hbx.ew
  have HGP := Hid.mk' hbx.eg
  have HG := Hid.mk' hbx.grow
  have c0 : wb.cell? ⟨gp, 0, none⟩ = some (.int .i64 p.pages) := hbx.blk.cell 0
  have c2 : wb.cell? ⟨gp, 2, none⟩ = some (.int .i64 p.counters) := hbx.blk.cell 2
  have c4 : wb.cell? ⟨gp, 4, none⟩ = some (.int .i64 p.nodes) := hbx.blk.cell 4
  unfold Pn.top
  generalize p.pages = a0 at c0 ⊢
  generalize p.counters = a2 at c2 ⊢
  generalize p.nodes = a4 at c4 ⊢
  unfold pval
  obtain ⟨N, hN⟩ : ∃ N, N = (pcells p v).toArray := ⟨_, rfl⟩
  rw [← hN] at HW ⊢
  obtain ⟨s1, h1⟩ : ∃ s1, s1 = ad a0 a2 := ⟨_, rfl⟩
  obtain ⟨s2, h2⟩ : ∃ s2, s2 = ad s1 a4 := ⟨_, rfl⟩
  obtain ⟨s3, h3⟩ : ∃ s3, s3 = sb s2 1 := ⟨_, rfl⟩
  rw [← h1, ← h2, ← h3]
  have e1 : IntKind.i64.wrap (a0 + a2) = s1 := h1.symm
  have e2 : IntKind.i64.wrap (s1 + a4) = s2 := h2.symm
  have e3 : IntKind.i64.wrap (s2 - 1) = s3 := h3.symm
  clear hbx hN h1 h2 h3
  go_enter Tryd.func59, Tryd.ntmps59
  go_upto_region 1 with fail
  rw [← HW.out, ← HGP.out]
  clear HW HGP
  go_wp2
  go_ret
  exact ⟨rfl, HG.out⟩
def Pn.has (p : Pn) (x : Int) : Bool := decide (0 ≤ x ∧ x < p.pages)
set_option maxRecDepth 100000 in
theorem there_any (w : World) (p : Pn) (v : Value) (x : Int) : Calls Tryd.prog 39 #[pval p v, .int .i64 x] w fun e w' => e = .returned (.bool (p.has x)) ∧ Grow w w' := by
  obtain ⟨wb, gp, hbx⟩ := box_pl w p v
  have HW := Hid.mk' hbx.ew
  have HGP := Hid.mk' hbx.eg
  have HG := Hid.mk' hbx.grow
  have c0 : wb.cell? ⟨gp, 0, none⟩ = some (.int .i64 p.pages) := hbx.blk.cell 0
  unfold Pn.has
  generalize p.pages = a0 at c0 ⊢
  unfold pval
  obtain ⟨N, hN⟩ : ∃ N, N = (pcells p v).toArray := ⟨_, rfl⟩
  rw [← hN] at HW ⊢
  clear hbx hN
  by_cases h0 : 0 ≤ x
  · by_cases h1 : x < a0
    · rw [decide_eq_true ⟨h0, h1⟩]
      go_enter Tryd.func39, Tryd.ntmps39
      go_upto_region 1 with fail
      rw [← HW.out, ← HGP.out]
      clear HW HGP
      go_wp2
      go_ret
      exact ⟨rfl, HG.out⟩
    · rw [decide_eq_false (fun h => h1 h.2)]
      go_enter Tryd.func39, Tryd.ntmps39
      go_upto_region 1 with fail
      rw [← HW.out, ← HGP.out]
      clear HW HGP
      go_wp2
      go_ret
      exact ⟨rfl, HG.out⟩
  · rw [decide_eq_false (fun h => h0 h.1)]
    go_enter Tryd.func39, Tryd.ntmps39
    go_upto_region 1 with fail
    rw [← HW.out, ← HGP.out]
    clear HW HGP
    go_wp2
    go_ret
    exact ⟨rfl, HG.out⟩
/-- A row of numbers, new since w. -/
structure Own (w w' : World) (v : Value) (ks : List Int) : Prop where
  row : w'.ownsRow 0 3 1 v ks.length (numv ks)
  new : ∀ k, v.ownBlock = some k → w.heap.size ≤ k
theorem Own.grow {w w' w2 : World} {v : Value} {ks : List Int} (h : Own w w' v ks) (k : Grow w' w2) : Own w w2 v ks := ⟨ownsRow_grow h.row k, h.new⟩
/-- A number put behind an own row. -/
theorem Own.more {w w3 w4 : World} {v v4 : Value} {F : List Int} {x : Int} (h : Own w w3 v F) (hap : Appd w3 w4 3 1 v v4 (F.length + 1) (numv F ++ numv [x])) (hg : Grow w w3) : Own w w4 v4 (F ++ [x]) ∧ Grow w w4 := by
  refine ⟨⟨?_, fun k hk => ?_⟩, hg.then hap.but (fun b hb e => by have := h.new b e; omega)⟩
  · rw [List.length_append, List.length_singleton, show numv (F ++ [x]) = numv F ++ numv [x] by simp [numv]]
    exact hap.own
  · rcases hap.at' with e | e
    · exact h.new k (by rw [← e]; exact hk)
    · rw [e] at hk
      have := Option.some.inj hk
      have := hg.size
      omega
set_option maxRecDepth 100000 in
theorem levels_any (w : World) (c : Nat) (h1 : 1 ≤ c) (h2 : c ≤ 256) : Calls Tryd.prog 70 #[.int .i64 (c : Int)] w fun e w' => ∃ v, e = .returned v ∧ Own w w' v (toI (lvs c)) ∧ Grow w w' := by
  have HB := Hid.mk' (begun_any w c 8 (by omega) (by decide) (by decide))
  obtain ⟨m0, hm⟩ : ∃ m0, m0 = bg c 8 := ⟨_, rfl⟩
  have hL : lvs c = lvN 3 m0 := by rw [hm]; rfl
  have hm1 : 1 ≤ m0 := by rw [hm]; exact bg_pos h1
  have hm2 : m0 ≤ 8 ^ 3 := by rw [hm]; exact bg8 (k := 3) (by omega)
  rw [← hm] at HB
  have HL := Hid.mk' hL
  have HM := Hid.mk' (And.intro hm1 hm2)
  obtain ⟨w1, hw1⟩ : ∃ w1, w1 = w.alloc (.cells #[.int .i64 (m0 : Int)] 3) := ⟨_, rfl⟩
  have HO1 : Hid (Own w w1 (.slice (some ⟨w.heap.size, 0, none⟩) 1 1) (toI [m0])) := by
    rw [hw1]
    exact ⟨(RowOf.lit (Fr := fun _ => True) (n := 1) (Blk.new (L := numv [(m0 : Int)]) rfl) rfl (by decide) trivial).own, fun k hk => by have h9 : some w.heap.size = some k := hk; have := Option.some.inj h9; omega⟩
  have HG1 : Hid (Grow w w1) := by rw [hw1]; exact (But.refl _ w).alloc _
  have HW1 := Hid.mk' hw1
  clear hm hL hm1 hm2 hw1
  go_enter Tryd.func70, Tryd.ntmps70
  go_wp2_with fail
  refine Calls.mono HB.out ?_
  rintro e w' ⟨rfl, hw⟩
  have h3 := hw.symm
  subst h3
  clear hw HB
  go_wp2_with (first
    | (refine wpList_runH rfl (exec_row1 (v := .int .i64 (m0 : Int)) Tryd.underlying23 infNum (by decide) (by decide) rfl rfl rfl) ?_)
    | fail)
  rw [← HW1.out]
  clear HW1
  go_loopw [3, 4] (fun mv rv wr => ∃ (m k : Nat) (A : List Nat) (r : Value), mv = .int .i64 (m : Int) ∧ r = rv ∧ k ≤ 3 ∧ 1 ≤ m ∧ m ≤ 8 ^ k ∧ A.length ≤ 3 - k ∧ lvs c = A ++ lvN k m ∧ Own w wr r (toI (A ++ [m])) ∧ Grow w wr) (fun mv _ _ => (intOf mv).toNat)
  case atStart => exact ⟨m0, 3, [], _, rfl, rfl, by decide, HM.out.1, HM.out.2, by decide, HL.out, HO1.out, HG1.out⟩
  case round =>
    clear HM HL HO1 HG1
    rename_i rv
    obtain ⟨m, k, A, r, rfl, rfl, hk, hm1, hm8, hA, hL, hO, hG⟩ := hrel
    have HO := Hid.mk' hO
    have HG := Hid.mk' hG
    have HL := Hid.mk' hL
    have HM := Hid.mk' (And.intro hm1 hm8)
    have HK := Hid.mk' hk
    have HA := Hid.mk' hA
    have hmu : m ≤ 512 := Nat.le_trans hm8 (show 8 ^ k ≤ 8 ^ 3 from Nat.pow_le_pow_right (by decide) hk)
    have hmi : (m : Int) ≤ 512 := by omega
    clear hO hG hL hm8 hk hA
    by_cases hgt : 1 < m
    · have hgti : (1 : Int) < (m : Int) := by omega
      obtain ⟨k, rfl⟩ : ∃ j, k = j + 1 := by
        cases k with
        | zero => have := HM.out.2; simp at this; omega
        | succ j => exact ⟨j, rfl⟩
      have HB := Hid.mk' (begun_any wr m 8 (by omega) (by decide) (by decide))
      obtain ⟨m2, hm2⟩ : ∃ m2, m2 = bg m 8 := ⟨_, rfl⟩
      rw [← hm2] at HB
      have HM2 : Hid (1 ≤ m2 ∧ m2 ≤ 8 ^ k ∧ m2 < m) := Hid.mk' (by rw [hm2]; exact ⟨bg_pos hm1, bg8 HM.out.2, by unfold bg; omega⟩)
      have HL2 : Hid (lvs c = (A ++ [m]) ++ lvN k m2) := Hid.mk' (by rw [HL.out, lvN_more (by omega), List.append_assoc, hm2]; rfl)
      obtain ⟨F, hF⟩ : ∃ F, F = toI (A ++ [m]) := ⟨_, rfl⟩
      rw [← hF] at HO
      have HFE := Hid.mk' hF
      have HFL : Hid (F.length ≤ 8) := Hid.mk' (by rw [hF, toI_len, List.length_append, List.length_singleton]; have := HA.out; omega)
      have HAL : Hid (Grow wr (wr.alloc (.cells #[.int .i64 (m2 : Int)] 3))) := (But.refl _ wr).alloc _
      have HBL : Hid (Blk (wr.alloc (.cells #[.int .i64 (m2 : Int)] 3)) wr.heap.size 3 (numv [(m2 : Int)])) := Blk.new (L := numv [(m2 : Int)]) rfl
      clear hF hm2 hm1 hmu HM HL
      go_wp2_with fail
      refine Calls.mono HB.out ?_
      rintro e w' ⟨rfl, hw⟩
      have h3 := hw.symm
      subst h3
      clear hw HB
      go_wp2_with (first
        | (refine wpList_runH rfl (exec_row1 (v := .int .i64 (m2 : Int)) Tryd.underlying23 infNum (by decide) (by decide) rfl rfl rfl) ?_)
        | (refine wpList_someH rfl (exec_append (v := r) (n := F.length) (xs := numv F) (news := numv [(m2 : Int)]) Tryd.underlying23 infNum rfl (by decide) rfl rfl (ownsRow_grow HO.out.row HAL.out) rfl rfl (fun j u hj => HBL.out.cells0 j u hj) (fun u hu => by rw [show u = .int .i64 (m2 : Int) by simpa [numv] using hu]; rfl) (by have := HFL.out; omega) (by decide)) ?_; intro v4 w4 hap)
        | fail)
      obtain ⟨h5, h6⟩ := (HO.out.grow HAL.out).more hap (HG.out.trans HAL.out)
      refine ⟨⟨m2, k, A ++ [m], v4, rfl, rfl, by have := HK.out; omega, HM2.out.1, HM2.out.2.1, by rw [List.length_append, List.length_singleton]; have := HA.out; have := HK.out; omega, HL2.out, ?_, h6⟩, by simp [intOf]; have := HM2.out.2.2; omega⟩
      rw [show toI ((A ++ [m]) ++ [m2]) = F ++ [(m2 : Int)] by rw [HFE.out]; unfold toI; rw [List.map_append]; rfl]
      exact h5
    · have hgti : ¬ (1 : Int) < (m : Int) := by omega
      have HE : Hid (lvs c = A ++ [m]) := Hid.mk' (by rw [HL.out, lvN_one (by omega)])
      go_wp2
      go_ret
      exact ⟨_, rfl, by rw [HE.out]; exact HO.out, HG.out⟩
end Go.Proofs.YtmlladpmecclbaaDoor
/- plan: Of. -/
namespace Go.Proofs.YtmlladpmecclbaaDoor
open Go.RowKit

theorem wpList_store1 {w : World} {ops : Array Oper} {rest : List Oper} {o : Oper} {a : Act} {Q : Exit → Act → World → Prop} (hgd : o.guard = none) {t T : TypeId} (hsz : (Tryd.prog.info? t).map (·.size) = some 1) {x y : Operand} (ho : o.op = .store t x y)
    {g i : Nat} {v : Value} {L : List Value} (hx : a.eval x = .pointer (some ⟨g, i, none⟩)) (hy : a.eval y = v) (hv : v.oneCell' = true) (hb : Blk w g T L) (hi : i < L.length)
    (h : ∀ w', Blk w' g T (L.set i v) → But (· = g) w w' → wpList Tryd.prog ops Q rest (a.put o.dst undef) w') : wpList Tryd.prog ops Q (o :: rest) a w :=
  wpList_skipH hgd (exec_store hsz ho hx hy hv hb hi) (h _ (hb.set i v) (But.set1 w g i v))
theorem results_plan_tmp {P : Program} {fn : Func} {p u : Tmp} {ty : TypeId} (h : fn.results = #[.cell p ty, .tmp u]) (tmps : Array Value) (w : World) (g : Nat) (t : TypeId) (cs : Array Value) (d : TypeDesc) (v : Value)
    (hp : tmps.getD p undef = .pointer (some ⟨g, 0, none⟩)) (hg : w.heap[g]? = some (.cells cs t (0, 0))) (hu : P.underlying ty = some d) (hd : (match d with | .struct _ | .array _ _ => true | _ => false) = true) (hi : (P.info? ty).map (·.size) = some cs.size) (hv : tmps.getD u undef = v) :
    (results fn tmps).run P w = .ok (.tuple #[.agg cs, v]) w := by
  have hp' : tmps[p]?.getD undef = .pointer (some ⟨g, 0, none⟩) := by simpa using hp
  have hv' : tmps[u]?.getD undef = v := by simpa using hv
  simp [results, h, hp', hv', asAddr, run_loadVar_row w g t ty cs (0, 0) d hg hu hd hi]
theorem iIn : (Tryd.prog.info? 3).map (·.size) = some 1 := by kernel_rfl
theorem iSl : (Tryd.prog.info? 23).map (·.size) = some 1 := by kernel_rfl
def Pn.zero : Pn := ⟨0, 0, 0, [], 0, 0, 0, 0, 0, 0⟩
abbrev noS : Value := .slice none 0 0
theorem zPl (w : World) : (zeroValue 25).run Tryd.prog w = .ok (.agg (pcells Pn.zero noS).toArray) w := by kernel_rfl
theorem bldPl (a b : Int) (w : World) : (Instr.build 25 #[(0, .int .i64 a), (1, .int .i64 b)]).run Tryd.prog w = .ok (.agg (pcells ⟨a, b, 0, [], 0, 0, 0, 0, 0, 0⟩ noS).toArray) w := by kernel_rfl
theorem pcells_one (p : Pn) {v : Value} (hv : v.oneCell' = true) : ∀ u ∈ pcells p v, u.oneCell' = true := by
  intro u hu
  unfold pcells at hu
  simp only [List.mem_cons, List.not_mem_nil, or_false] at hu
  rcases hu with rfl | rfl | rfl | rfl | rfl | rfl | rfl | rfl | rfl | rfl <;> first | rfl | exact hv
def OfTo (w : World) (n b : Nat) (e : Ending) (w' : World) : Prop := ∃ v, e = .returned (.tuple #[pval (plan n b) v, .int .i64 0]) ∧ Own w w' v (plan n b).levels ∧ Grow w w'
set_option maxRecDepth 100000 in
theorem planof_not (w : World) (x y : Int) (h : ¬ (1 ≤ x ∧ x ≤ 4096 ∧ 1 ≤ y ∧ y ≤ 256)) : Calls Tryd.prog 62 #[.int .i64 x, .int .i64 y] w fun e w' => e = .returned (.tuple #[pval Pn.zero noS, .int .i64 1]) ∧ Grow w w' := by
  obtain ⟨g0, hg0⟩ : ∃ g, g = w.heap.size := ⟨_, rfl⟩
  obtain ⟨W0, hW0⟩ : ∃ W0, W0 = w.alloc (.cells (pcells Pn.zero noS).toArray 25) := ⟨_, rfl⟩
  have hT0 : Grow w W0 := by rw [hW0]; exact (But.refl _ w).alloc _
  have hB0 : Blk W0 g0 25 (pcells Pn.zero noS) := by rw [hW0]; exact Blk.new hg0.symm
  have HT0 := Hid.mk' hT0
  have HB0 := Hid.mk' hB0
  have HG := Hid.mk' hg0
  have HGE : Hid (w.heap.size ≤ g0) := Hid.mk' (by omega)
  have HW := Hid.mk' hW0
  clear hg0 hW0 hT0 hB0
  rcases (by omega : x < 1 ∨ (¬ x < 1 ∧ 4096 < x) ∨ (¬ x < 1 ∧ ¬ 4096 < x ∧ y < 1) ∨ (¬ x < 1 ∧ ¬ 4096 < x ∧ ¬ y < 1 ∧ 256 < y)) with h1 | ⟨h1, h2⟩ | ⟨h1, h2, h3⟩ | ⟨h1, h2, h3, h4⟩
  all_goals
    clear h
    go_enter Tryd.func62, Tryd.ntmps62
    go_upto_region 1 with (first
      | (refine wpList_runH rfl (exec_allocF rfl (zPl _)) ?_)
      | fail)
    rw [← HW.out, ← HG.out]
    clear HW HG
    go_upto_region 2 with fail
    go_wp2_with (first
      | (refine wpList_store_at rfl _ _ _ rfl g0 0 (pcells Pn.zero noS) rfl rfl 25 [] (pcells Pn.zero noS) [] (by simpa using HB0.out) rfl rfl iPl (pcells_one _ rfl) ?_; intro w3 hb3 hbut3; rw [List.nil_append, List.append_nil] at hb3)
      | fail)
    refine bodyPost_ret (results_plan_tmp rfl _ _ g0 _ _ _ _ rfl hb3 Tryd.underlying25 rfl iPl rfl) rfl ⟨rfl, ?_⟩
    exact HT0.out.then hbut3 (fun b hb e => by have := HGE.out; omega)
theorem Own.sl {w w' : World} {v : Value} {ks : List Int} (h : Own w w' v ks) : ∃ a c, v = .slice a ks.length c := own_sl h.row
theorem Own.nums {w w' : World} {v : Value} {ks : List Int} (h : Own w w' v ks) (hk : ∀ x ∈ ks, -9223372036854775808 ≤ x ∧ x ≤ 9223372036854775807) (hl : ks.length ≤ 140737488355328) : Nums w' v ks := Nums.ofRow h.row hk hl
theorem Own.but {R : Nat → Prop} {w w' w2 : World} {v : Value} {ks : List Int} (h : Own w w' v ks) (k : But R w' w2) (hr : ∀ j, v.ownBlock = some j → ¬ R j) : Own w w2 v ks := ⟨ownsRow_but h.row k hr, h.new⟩
theorem row_cellP {w : World} {e : TypeId} {v : Value} {L : List Value} (h : w.ownsRow 0 e 1 v L.length L) (h0 : 0 < L.length) : ∃ b cap, v = .slice (some ⟨b, 0, none⟩) L.length cap ∧ ∀ i u, L[i]? = some u → w.cell? ⟨b, i, none⟩ = some u := by
  have hr : RowOf w (fun _ => True) e 1 v L.length L := ⟨h, fun _ _ => trivial⟩
  obtain ⟨ao, cap, e1, h1⟩ := hr.shape
  obtain ⟨b, e2, -, -, hc⟩ := h1 (by omega)
  exact ⟨b, cap, by rw [e1, e2], hc⟩
theorem lvs_le {c : Nat} (h1 : 1 ≤ c) (h2 : c ≤ 256) : (lvs c).length ≤ 3 ∧ 1 ≤ (lvs c).length ∧ (lvs c).sum ≤ 37 ∧ ∀ x ∈ lvs c, 1 ≤ x ∧ x ≤ 32 := by
  rcases lvs_shape h1 h2 with ⟨a, e⟩ | ⟨a, b, e⟩ | ⟨a, e⟩
  · rw [e]; simp
  · rw [e]
    refine ⟨by simp, by simp, ?_, fun x hx => ?_⟩
    · simp; unfold bg; omega
    · simp at hx; rcases hx with rfl | rfl
      · unfold bg; omega
      · omega
  · rw [e]
    refine ⟨by simp, by simp, ?_, fun x hx => ?_⟩
    · simp; unfold bg; omega
    · simp at hx; rcases hx with rfl | rfl | rfl
      · unfold bg; omega
      · unfold bg; omega
      · omega
theorem toI_i64 {l : List Nat} (h : ∀ x ∈ l, x ≤ 1000000) : ∀ x ∈ toI l, -9223372036854775808 ≤ x ∧ x ≤ 9223372036854775807 := fun x hx => by
  unfold toI at hx
  obtain ⟨y, hy, rfl⟩ := List.mem_map.1 hx
  have := h y hy
  omega
/-- What memory is amid Of. -/
structure OfM (w wr : World) (g0 g1 : Nat) (v : Value) (L : List Nat) (p : Pn) : Prop where
  one : Blk wr g1 25 (pcells p v)
  zero : Blk wr g0 25 (pcells Pn.zero noS)
  own : Own w wr v (toI L)
  grow : Grow w wr
  ne : g0 ≠ g1 ∧ w.heap.size ≤ g0 ∧ w.heap.size ≤ g1
  nv : ∀ k, v.ownBlock = some k → k ≠ g0 ∧ k ≠ g1
theorem OfM.put {w wr w' : World} {g0 g1 : Nat} {v : Value} {L : List Nat} {p p' : Pn} (h : OfM w wr g0 g1 v L p) (hb : Blk w' g1 25 (pcells p' v)) (k : But (· = g1) wr w') : OfM w w' g0 g1 v L p' :=
  ⟨hb, h.zero.but k h.ne.1, h.own.but k (fun j hj e => (h.nv j hj).2 e), h.grow.then k (fun j hj e => by have := h.ne.2.2; omega), h.ne, h.nv⟩
theorem OfM.last {w wr w' : World} {g0 g1 : Nat} {v : Value} {L : List Nat} {p : Pn} (h : OfM w wr g0 g1 v L p) (k : But (· = g0) wr w') : Own w w' v (toI L) ∧ Grow w w' :=
  ⟨h.own.but k (fun j hj e => (h.nv j hj).1 e), h.grow.then k (fun j hj e => by have := h.ne.2.1; omega)⟩
set_option maxRecDepth 100000 in
set_option maxHeartbeats 4000000 in
theorem planof_any (w : World) (n b : Nat) (h1 : 1 ≤ n) (h2 : n ≤ 4096) (h3 : 1 ≤ b) (h4 : b ≤ 256) : Calls Tryd.prog 62 #[.int .i64 (n : Int), .int .i64 (b : Int)] w (OfTo w n b) := by
  obtain ⟨g0, hg0⟩ : ∃ g, g = w.heap.size := ⟨_, rfl⟩
  obtain ⟨W0, hW0⟩ : ∃ W0, W0 = w.alloc (.cells (pcells Pn.zero noS).toArray 25) := ⟨_, rfl⟩
  have hT0 : Grow w W0 := by rw [hW0]; exact (But.refl _ w).alloc _
  have hB0 : Blk W0 g0 25 (pcells Pn.zero noS) := by rw [hW0]; exact Blk.new hg0.symm
  obtain ⟨g1, hg1⟩ : ∃ g, g = W0.heap.size := ⟨_, rfl⟩
  obtain ⟨W1, hW1⟩ : ∃ W1, W1 = W0.alloc (.cells (pcells Pn.zero noS).toArray 25) := ⟨_, rfl⟩
  have hT1 : Grow w W1 := by rw [hW1]; exact hT0.alloc _
  have hB1 : Blk W1 g1 25 (pcells Pn.zero noS) := by rw [hW1]; exact Blk.new hg1.symm
  have hB01 : Blk W1 g0 25 (pcells Pn.zero noS) := by rw [hW1]; exact hB0.but ((But.refl (fun _ => False) W0).alloc _) (fun h => h)
  have HNE : Hid (g0 ≠ g1 ∧ w.heap.size ≤ g0 ∧ w.heap.size ≤ g1) := by
    have := hB0.lt
    have := hT0.size
    exact ⟨by omega, by omega, by omega⟩
  have HT1 := Hid.mk' hT1
  have HB1 := Hid.mk' hB1
  have HB01 := Hid.mk' hB01
  have HG0 := Hid.mk' hg0
  have HG1 := Hid.mk' hg1
  have HW0 := Hid.mk' hW0
  have HW1 := Hid.mk' hW1
  obtain ⟨c, hc⟩ : ∃ c, c = bg n 16 := ⟨_, rfl⟩
  have hc1 : 1 ≤ c := by rw [hc]; unfold bg; omega
  have hc2 : c ≤ 256 := by rw [hc]; unfold bg; omega
  obtain ⟨L, hL⟩ : ∃ L, L = lvs c := ⟨_, rfl⟩
  have hLL := lvs_le hc1 hc2
  rw [← hL] at hLL
  obtain ⟨nd, hnd⟩ : ∃ nd, nd = L.sum := ⟨_, rfl⟩
  obtain ⟨q, hq⟩ : ∃ q : Nat, q = 12 + 4 * b := ⟨_, rfl⟩
  obtain ⟨hs, hhs⟩ : ∃ hs, hs = bg q 256 := ⟨_, rfl⟩
  have hsb : hs ≤ 5 := by rw [hhs]; unfold bg; omega
  obtain ⟨hd, hhd⟩ : ∃ hd, hd = n + c + nd := ⟨_, rfl⟩
  have HPL : Hid (plan n b = ⟨n, b, c, toI L, nd, hd, hs, (hd + hs : Nat), (hd + hs + b : Nat), (hd + hs + b + b : Nat)⟩) := by
    subst hhd hhs hq hnd hL hc
    rfl
  have HBG1 := Hid.mk' (fun w => begun_any w n 16 (by omega) (by decide) (by decide))
  have HBG2 := Hid.mk' (fun w => begun_any w q 256 (by omega) (by decide) (by decide))
  have HLV := Hid.mk' (fun w => levels_any w c hc1 hc2)
  rw [← hc] at HBG1
  rw [← hhs] at HBG2
  rw [← hL] at HLV
  have HLL := Hid.mk' hLL
  have HND := Hid.mk' hnd
  have en : (n : Int) ≤ 4096 := by omega
  have en1 : (1 : Int) ≤ (n : Int) := by omega
  have eb : (b : Int) ≤ 256 := by omega
  have eb1 : (1 : Int) ≤ (b : Int) := by omega
  have n1 : ¬ (n : Int) < 1 := by omega
  have n2 : ¬ (4096 : Int) < (n : Int) := by omega
  have b1 : ¬ (b : Int) < 1 := by omega
  have b2 : ¬ (256 : Int) < (b : Int) := by omega
  have ec : (c : Int) ≤ 256 := by omega
  have hds : hd ≤ 4389 := by have := hLL.2.2.1; omega
  have HQ : Hid ((12 : Int) + 4 * (b : Int) = (q : Int)) := Hid.mk' (by omega)
  have HSM : Hid ((n : Int) + (c : Int) + (nd : Int) = (hd : Int) ∧ (hd : Int) + (hs : Int) = ((hd + hs : Nat) : Int) ∧ ((hd + hs : Nat) : Int) + (b : Int) = ((hd + hs + b : Nat) : Int) ∧ ((hd + hs + b : Nat) : Int) + (b : Int) = ((hd + hs + b + b : Nat) : Int)) := ⟨by omega, by omega, by omega, by omega⟩
  have HBD : Hid ((nd : Int) ≤ 37 ∧ (hd : Int) ≤ 4389 ∧ (hs : Int) ≤ 5) := ⟨by have := hLL.2.2.1; omega, by omega, by omega⟩
  clear h1 h2 h3 h4 hg0 hg1 hW0 hW1 hT0 hT1 hB0 hB1 hB01 hc hc1 hc2 hL hLL hnd hq hhs hsb hhd hds
  go_enter Tryd.func62, Tryd.ntmps62
  go_upto_region 1 with (first
    | (refine wpList_runH rfl (exec_allocF rfl (zPl _)) ?_)
    | fail)
  rw [← HW0.out, ← HG0.out]
  clear HW0 HG0
  go_upto_region 4 with (first
    | (refine wpList_runH rfl (exec_allocF rfl (zPl _)) ?_; rw [← HW1.out, ← HG1.out])
    | (refine wpList_build_run rfl _ [_, _] rfl [(0, .int .i64 (n : Int)), (1, .int .i64 (b : Int))] rfl _ (bldPl _ _ _) ?_)
    | (refine wpList_store_at rfl _ _ _ rfl g1 0 (pcells ⟨n, b, 0, [], 0, 0, 0, 0, 0, 0⟩ noS) rfl rfl 25 [] (pcells Pn.zero noS) [] (by simpa using HB1.out) rfl rfl iPl (pcells_one _ rfl) ?_; intro w2 hb2 hbut2; rw [List.nil_append, List.append_nil] at hb2)
    | fail)
  have HB2 := Hid.mk' hb2
  have HZ2 := Hid.mk' (HB01.out.but hbut2 HNE.out.1)
  have HT2 : Hid (Grow w w2) := HT1.out.then hbut2 (fun j hj e => by have := HNE.out.2.2; omega)
  clear hb2 hbut2 HW1 HG1 HB1 HB01 HT1
  go_wp2_with fail
  refine Calls.mono (HBG1.out _) ?_
  rintro e w' ⟨rfl, hw⟩
  have h3 := hw.symm
  subst h3
  clear hw HBG1
  go_upto_region 5 with (first
    | (refine wpList_store1 (g := g1) (i := 2) (v := .int .i64 (c : Int)) rfl iIn rfl rfl rfl rfl HB2.out (show 2 < 10 by decide) ?_; intro w3 hb3 hbut3)
    | fail)
  have hb3' : Blk w3 g1 25 (pcells ⟨n, b, c, [], 0, 0, 0, 0, 0, 0⟩ noS) := hb3
  have c2 : w3.cell? ⟨g1, 2, none⟩ = some (.int .i64 (c : Int)) := hb3'.cell 2
  have HB3 := Hid.mk' hb3'
  have HZ3 := Hid.mk' (HZ2.out.but hbut3 HNE.out.1)
  have HT3 : Hid (Grow w w3) := HT2.out.then hbut3 (fun j hj e => by have := HNE.out.2.2; omega)
  clear hb3 hb3' hbut3 HB2 HZ2 HT2
  go_wp2_with fail
  refine Calls.mono (HLV.out _) ?_
  rintro e w4 ⟨v4, rfl, ho4, hg4⟩
  obtain ⟨la, lc, e4⟩ := ho4.sl
  rw [toI_len] at e4
  obtain ⟨ln, hln⟩ : ∃ ln, ln = L.length := ⟨_, rfl⟩
  rw [← hln] at e4
  have HLN := Hid.mk' hln
  subst e4
  have HO4 := Hid.mk' (show Own w w4 _ _ from ⟨ho4.row, fun k hk => Nat.le_trans HT3.out.size (ho4.new k hk)⟩)
  have HN4 : Hid (∀ k, (Value.slice la ln lc).ownBlock = some k → k ≠ g0 ∧ k ≠ g1) := fun k hk => by
    have := ho4.new k hk
    have := HB3.out.lt
    have := HZ3.out.lt
    exact ⟨by omega, by omega⟩
  have HB4 := Hid.mk' (HB3.out.but hg4 (fun h => h))
  have HZ4 := Hid.mk' (HZ3.out.but hg4 (fun h => h))
  have HT4 := Hid.mk' (HT3.out.trans hg4)
  clear ho4 hln hg4 c2 HB3 HZ3 HT3 HLV
  go_upto_region 6 with (first
    | (refine wpList_store1 (g := g1) (i := 3) (v := .slice la ln lc) rfl iSl rfl rfl rfl rfl HB4.out (show 3 < 10 by decide) ?_; intro w5 hb5 hbut5)
    | fail)
  have HI0 : Hid (OfM w w5 g0 g1 (.slice la ln lc) L ⟨n, b, c, [], 0, 0, 0, 0, 0, 0⟩) :=
    ⟨hb5, HZ4.out.but hbut5 HNE.out.1, HO4.out.but hbut5 (fun j hj e => (HN4.out j hj).2 e), HT4.out.then hbut5 (fun j hj e => by have := HNE.out.2.2; omega), HNE.out, HN4.out⟩
  have c3 : w5.cell? ⟨g1, 3, none⟩ = some (.slice la ln lc) := HI0.out.one.cell 3
  clear hb5 hbut5 HB4 HZ4 HT4 HO4
  go_wp2
  have hlni : (ln : Int) ≤ 3 := by have := HLL.out.1; have := HLN.out; omega
  go_loopw [37] (fun iv wr => ∃ i : Nat, i ≤ ln ∧ iv = .int .i64 i ∧ OfM w wr g0 g1 (.slice la ln lc) L ⟨n, b, c, [], ((L.take i).sum : Nat), 0, 0, 0, 0, 0⟩) (fun iv _ => ln - (intOf iv).toNat)
  case atStart => exact ⟨0, Nat.zero_le _, rfl, HI0.out⟩
  case round =>
    clear HI0 c3
    obtain ⟨i, hil, rfl, hI⟩ := hrel
    by_cases hlt : i < ln
    · have hlti : (i : Int) < (ln : Int) := by omega
      obtain ⟨u, hu⟩ : ∃ u, L[i]? = some u := ⟨_, List.getElem?_eq_getElem (by have := HLN.out; omega)⟩
      obtain ⟨b4, c4, e4, hcell⟩ := row_cellP (e := 3) (L := numv (toI L)) (by rw [show (numv (toI L)).length = (toI L).length from List.length_map ..]; exact hI.own.row) (by rw [show (numv (toI L)).length = (toI L).length from List.length_map .., toI_len]; have := HLN.out; omega)
      simp only [Value.slice.injEq] at e4
      obtain ⟨rfl, -, rfl⟩ := e4
      have cu := hcell i (.int .i64 (u : Int)) (by unfold numv toI; rw [List.getElem?_map, List.getElem?_map, hu]; rfl)
      obtain ⟨sm, hsm⟩ : ∃ sm, sm = (L.take i).sum := ⟨_, rfl⟩
      have hsu : (L.take (i + 1)).sum = sm + u := by
        have h3 := List.getElem?_eq_some_iff.1 hu
        rw [List.take_succ_eq_append_getElem h3.1, List.sum_append, h3.2, hsm]; simp
      have hs37 : sm + u ≤ 37 := by
        rw [← hsu]
        refine Nat.le_trans ?_ HLL.out.2.2.1
        have := congrArg List.sum (List.take_append_drop (i + 1) L)
        rw [List.sum_append] at this
        omega
      have esm : (sm : Int) + (u : Int) = ((sm + u : Nat) : Int) := by omega
      have hsu1 : ((sm + u : Nat) : Int) ≤ 37 := by omega
      rw [← hsm] at hI
      have HI := Hid.mk' hI
      have HSU := Hid.mk' hsu
      have c4 : wr.cell? ⟨g1, 4, none⟩ = some (.int .i64 (sm : Int)) := hI.one.cell 4
      obtain ⟨su, hsu2⟩ : ∃ su : Int, su = ((sm + u : Nat) : Int) := ⟨_, rfl⟩
      rw [← hsu2] at esm hsu1
      have HSS : Hid (((sm + u : Nat) : Int) = su) := hsu2.symm
      clear hI hu hcell hsm hsu hs37 hil hsu2
      go_wp2_with (first
        | (refine wpList_store1 (g := g1) (i := 4) (v := .int .i64 su) rfl iIn rfl rfl rfl rfl HI.out.one (show 4 < 10 by decide) ?_; intro w6 hb6 hbut6)
        | fail)
      exact ⟨⟨i + 1, by omega, by go_num, by rw [HSU.out, HSS.out]; exact HI.out.put hb6 hbut6⟩, by simp [intOf]; omega⟩
    · have hie : i = ln := by omega
      have hlti : ¬ (i : Int) < (ln : Int) := by omega
      rw [hie, HLN.out, List.take_of_length_le (Nat.le_refl _), ← HND.out] at hI
      rw [← HLN.out] at hI
      have HI := Hid.mk' hI
      have d0 : wr.cell? ⟨g1, 0, none⟩ = some (.int .i64 (n : Int)) := hI.one.cell 0
      have d2 : wr.cell? ⟨g1, 2, none⟩ = some (.int .i64 (c : Int)) := hI.one.cell 2
      have d4 : wr.cell? ⟨g1, 4, none⟩ = some (.int .i64 (nd : Int)) := hI.one.cell 4
      obtain ⟨q1, q2, q3, q4⟩ := HSM.out
      obtain ⟨q5, q6, q7⟩ := HBD.out
      obtain ⟨s7, hs7⟩ : ∃ s : Int, s = ((hd + hs : Nat) : Int) := ⟨_, rfl⟩
      obtain ⟨s8, hs8⟩ : ∃ s : Int, s = ((hd + hs + b : Nat) : Int) := ⟨_, rfl⟩
      obtain ⟨s9, hs9⟩ : ∃ s : Int, s = ((hd + hs + b + b : Nat) : Int) := ⟨_, rfl⟩
      rw [← hs7] at q2 q3
      rw [← hs8] at q3 q4
      rw [← hs9] at q4
      have HPE : Hid (plan n b = ⟨n, b, c, toI L, nd, hd, hs, s7, s8, s9⟩) := by rw [hs7, hs8, hs9]; exact HPL.out
      have hQ := HQ.out
      have q8 : s7 ≤ 5000 := by omega
      have q9 : s8 ≤ 5500 := by omega
      clear hI hie hil hs7 hs8 hs9 HSM HBD HPL HQ hlt
      go_upto_region 12 with (first
        | (refine wpList_store1 (g := g1) (i := 5) (v := .int .i64 (hd : Int)) rfl iIn rfl rfl rfl rfl HI.out.one (show 5 < 10 by decide) ?_; intro w6 hb6 hbut6)
        | fail)
      have H6 := Hid.mk' (HI.out.put (p' := ⟨n, b, c, [], nd, hd, 0, 0, 0, 0⟩) hb6 hbut6)
      clear hb6 hbut6 d0 d2 d4 HI
      go_wp2_with fail
      refine Calls.mono (HBG2.out _) ?_
      rintro e w' ⟨rfl, hw⟩
      have h3 := hw.symm
      subst h3
      clear hw HBG2
      go_upto_region 13 with (first
        | (refine wpList_store1 (g := g1) (i := 6) (v := .int .i64 (hs : Int)) rfl iIn rfl rfl rfl rfl H6.out.one (show 6 < 10 by decide) ?_; intro w7 hb7 hbut7)
        | fail)
      have H7 := Hid.mk' (H6.out.put (p' := ⟨n, b, c, [], nd, hd, hs, 0, 0, 0⟩) hb7 hbut7)
      have d5 : w7.cell? ⟨g1, 5, none⟩ = some (.int .i64 (hd : Int)) := H7.out.one.cell 5
      have d6 : w7.cell? ⟨g1, 6, none⟩ = some (.int .i64 (hs : Int)) := H7.out.one.cell 6
      clear hb7 hbut7 H6
      go_upto_region 14 with (first
        | (refine wpList_store1 (g := g1) (i := 7) (v := .int .i64 s7) rfl iIn rfl rfl rfl rfl H7.out.one (show 7 < 10 by decide) ?_; intro w8 hb8 hbut8)
        | fail)
      have H8 := Hid.mk' (H7.out.put (p' := ⟨n, b, c, [], nd, hd, hs, s7, 0, 0⟩) hb8 hbut8)
      have d7 : w8.cell? ⟨g1, 7, none⟩ = some (.int .i64 s7) := H8.out.one.cell 7
      clear hb8 hbut8 H7 d5 d6
      go_upto_region 15 with (first
        | (refine wpList_store1 (g := g1) (i := 8) (v := .int .i64 s8) rfl iIn rfl rfl rfl rfl H8.out.one (show 8 < 10 by decide) ?_; intro w9 hb9 hbut9)
        | fail)
      have H9 := Hid.mk' (H8.out.put (p' := ⟨n, b, c, [], nd, hd, hs, s7, s8, 0⟩) hb9 hbut9)
      have d8 : w9.cell? ⟨g1, 8, none⟩ = some (.int .i64 s8) := H9.out.one.cell 8
      clear hb9 hbut9 H8 d7
      go_upto_region 16 with (first
        | (refine wpList_store1 (g := g1) (i := 9) (v := .int .i64 s9) rfl iIn rfl rfl rfl rfl H9.out.one (show 9 < 10 by decide) ?_; intro w10 hb10 hbut10)
        | fail)
      have H10 := Hid.mk' (H9.out.put (p' := ⟨n, b, c, [], nd, hd, hs, s7, s8, s9⟩) hb10 hbut10)
      have HCW : Hid (∀ j u, (pcells ⟨n, b, c, [], nd, hd, hs, s7, s8, s9⟩ (.slice la ln lc))[j]? = some u → w10.cell? ((⟨g1, 0, none⟩ : Addr).add j) = some u) := fun j u hj => by
        rw [addr_add, Nat.zero_add, H10.out.one.cell j]; exact hj
      clear hb10 hbut10 H9 d8
      go_wp2_with (first
        | (refine wpList_load_cells rfl _ _ rfl ⟨g1, 0, none⟩ rfl (pcells ⟨n, b, c, [], nd, hd, hs, s7, s8, s9⟩ (.slice la ln lc)) _ HCW.out Tryd.underlying25 rfl iPl ?_)
        | (refine wpList_store_at rfl _ _ _ rfl g0 0 (pcells ⟨n, b, c, [], nd, hd, hs, s7, s8, s9⟩ (.slice la ln lc)) rfl rfl 25 [] (pcells Pn.zero noS) [] (by simpa using H10.out.zero) rfl rfl iPl (pcells_one _ rfl) ?_; intro w11 hb11 hbut11; rw [List.nil_append, List.append_nil] at hb11)
        | fail)
      obtain ⟨ho, hg⟩ := H10.out.last hbut11
      refine bodyPost_ret (results_plan_tmp rfl _ _ g0 _ _ _ _ rfl hb11 Tryd.underlying25 rfl iPl rfl) rfl ⟨.slice la ln lc, ?_, ?_, hg⟩
      · rw [HPE.out]; rfl
      · rw [HPE.out]; exact ho
end Go.Proofs.YtmlladpmecclbaaDoor
/- plan: Parent. -/
namespace Go.Proofs.YtmlladpmecclbaaDoor
open Go.RowKit

def dv (a b : Int) : Int := IntKind.i64.wrap (Int.tdiv a b)
abbrev plc (a b : Int) : List Value := [.int .i64 a, .int .i64 b]
structure Pc where
  block : Int
  at' : Int
  e : Int
def Pc.ret (x : Pc) : Value := .tuple #[.agg (plc x.block x.at').toArray, .int .i64 x.e]
def parGo (b t : Int) : Int → Int → List Int → Pc
  | _, _, [] => if b = t then ⟨0, 0, 5⟩ else ⟨0, 0, 1⟩
  | first, many, a :: ls => if sb b first < many then ⟨ad (ad first many) (dv (sb b first) 8), Int.tmod (sb b first) 8, 0⟩ else parGo b t (ad first many) a ls
theorem parGo_nil (b t f m : Int) : parGo b t f m [] = if b = t then ⟨0, 0, 5⟩ else ⟨0, 0, 1⟩ := rfl
theorem parGo_cons (b t f m a : Int) (ls : List Int) : parGo b t f m (a :: ls) = if sb b f < m then ⟨ad (ad f m) (dv (sb b f) 8), Int.tmod (sb b f) 8, 0⟩ else parGo b t (ad f m) a ls := rfl
def Pn.par (p : Pn) (b : Int) : Pc := if b < 0 then ⟨0, 0, 1⟩ else if b < p.pages then ⟨ad p.pages (dv b 16), b % 16, 0⟩ else parGo b p.top p.pages p.counters p.levels
theorem iPc : (Tryd.prog.info? 78).map (·.size) = some 2 := by kernel_rfl
theorem zPc (w : World) : (zeroValue 78).run Tryd.prog w = .ok (.agg (plc 0 0).toArray) w := by kernel_rfl
theorem bldPc (a b : Int) (w : World) : (Instr.build 78 #[(0, .int .i64 a), (1, .int .i64 b)]).run Tryd.prog w = .ok (.agg (plc a b).toArray) w := by kernel_rfl
theorem plc_one (a b : Int) : ∀ u ∈ plc a b, u.oneCell' = true := by
  intro u hu
  simp only [List.mem_cons, List.not_mem_nil, or_false] at hu
  rcases hu with rfl | rfl <;> rfl
/-- What memory is at Parent's begin: the plan in a box, a place for the answer. -/
structure ParM (w : World) (p : Pn) (v : Value) (g0 g1 : Nat) (W : World) : Prop where
  box : Blk W g0 25 (pcells p v)
  ans : Blk W g1 78 (plc 0 0)
  grow : Grow w W
  ne : w.heap.size ≤ g1
theorem par_begin (w : World) (p : Pn) (v : Value) : ∃ W0 W1 g0 g1, W0 = w.alloc (.cells (pcells p v).toArray 25) ∧ g0 = w.heap.size ∧ W1 = W0.alloc (.cells (plc 0 0).toArray 78) ∧ g1 = W0.heap.size ∧ ParM w p v g0 g1 W1 := by
  have g : Grow w (w.alloc (.cells (pcells p v).toArray 25)) := (But.refl _ w).alloc _
  exact ⟨_, _, _, _, rfl, rfl, rfl, rfl, (Blk.new rfl : Blk (w.alloc (.cells (pcells p v).toArray 25)) w.heap.size 25 (pcells p v)).but ((But.refl (fun _ => False) _).alloc _) (fun h => h), Blk.new rfl, g.alloc _, g.size⟩
theorem ParM.fin {w : World} {p : Pn} {v : Value} {g0 g1 : Nat} {W w' w2 : World} (h : ParM w p v g0 g1 W) (k : Grow W w') (k2 : But (· = g1) w' w2) : Grow w w2 :=
  (h.grow.trans k).then k2 (fun j hj e => by have := h.ne; omega)
set_option maxRecDepth 100000 in
set_option maxHeartbeats 2000000 in
theorem parent_any (w : World) (p : Pn) (v : Value) (b : Int) (hv : Nums w v p.levels) (hlen : p.levels.length ≤ 100000) : Calls Tryd.prog 42 #[pval p v, .int .i64 b] w fun e w' => e = .returned (p.par b).ret ∧ Grow w w' := by
  obtain ⟨W0, W1, g0, g1, hW0, hg0, hW1, hg1, hM⟩ := par_begin w p v
  have HW0 := Hid.mk' hW0
  have HG0 := Hid.mk' hg0
  have HW1 := Hid.mk' hW1
  have HG1 := Hid.mk' hg1
  have HM := Hid.mk' hM
  have HV := Hid.mk' hv
  have HLN := Hid.mk' hlen
  have HTP := Hid.mk' (fun w => top_any w p v)
  have c0 : W1.cell? ⟨g0, 0, none⟩ = some (.int .i64 p.pages) := hM.box.cell 0
  have c2 : W1.cell? ⟨g0, 2, none⟩ = some (.int .i64 p.counters) := hM.box.cell 2
  have c3 : W1.cell? ⟨g0, 3, none⟩ = some v := hM.box.cell 3
  unfold Pn.par
  generalize hpg : p.pages = a0 at c0 ⊢
  generalize hct : p.counters = a2 at c2 ⊢
  generalize htp : p.top = tp at HTP ⊢
  generalize hlv : p.levels = ls at HV HLN ⊢
  obtain ⟨la, lc, hve⟩ := HV.out.len
  obtain ⟨ln, hln⟩ : ∃ ln, ln = ls.length := ⟨_, rfl⟩
  rw [← hln] at hve HLN
  have HLE := Hid.mk' hln
  unfold pval
  obtain ⟨N, hN⟩ : ∃ N, N = (pcells p v).toArray := ⟨_, rfl⟩
  rw [← hN] at HW0 ⊢
  have HNN := Hid.mk' hN
  clear hW0 hg0 hW1 hg1 hM hv hlen hln hN hpg hct htp hlv
  subst hve
  by_cases h0 : b < 0
  · rw [if_pos h0]
    go_enter Tryd.func42, Tryd.ntmps42
    go_upto_region 1 with (first
      | (refine wpList_runH rfl (exec_allocF rfl (zPc _)) ?_; rw [← HW0.out, ← HG0.out, ← HW1.out, ← HG1.out])
      | fail)
    clear HW0 HG0 HW1 HG1
    go_wp2_with (first
      | (refine wpList_store_at rfl _ _ _ rfl g1 0 (plc 0 0) rfl rfl 78 [] (plc 0 0) [] (by simpa using HM.out.ans) rfl rfl iPc (plc_one _ _) ?_; intro w3 hb3 hbut3; rw [List.nil_append, List.append_nil] at hb3)
      | fail)
    exact bodyPost_ret (results_plan_tmp rfl _ _ g1 _ _ _ _ rfl hb3 Tryd.underlying78 rfl iPc rfl) rfl ⟨rfl, HM.out.fin (But.refl _ _) hbut3⟩
  · rw [if_neg h0]
    by_cases h1 : b < a0
    · rw [if_pos h1]
      obtain ⟨q, hq⟩ : ∃ q, q = dv b 16 := ⟨_, rfl⟩
      obtain ⟨t, ht⟩ : ∃ t, t = ad a0 q := ⟨_, rfl⟩
      rw [← hq, ← ht]
      have e1 : IntKind.i64.wrap (b.tdiv 16) = q := hq.symm
      have e2 : IntKind.i64.wrap (a0 + q) = t := ht.symm
      clear hq ht
      go_enter Tryd.func42, Tryd.ntmps42
      go_upto_region 4 with (first
        | (refine wpList_runH rfl (exec_allocF rfl (zPc _)) ?_; rw [← HW0.out, ← HG0.out, ← HW1.out, ← HG1.out])
        | fail)
      clear HW0 HG0 HW1 HG1
      go_wp2_with (first
        | (refine wpList_store_at rfl _ _ _ rfl g1 0 (plc t (b % 16)) rfl rfl 78 [] (plc 0 0) [] (by simpa using HM.out.ans) rfl rfl iPc (plc_one _ _) ?_; intro w3 hb3 hbut3; rw [List.nil_append, List.append_nil] at hb3)
        | fail)
      exact bodyPost_ret (results_plan_tmp rfl _ _ g1 _ _ _ _ rfl hb3 Tryd.underlying78 rfl iPc rfl) rfl ⟨rfl, HM.out.fin (But.refl _ _) hbut3⟩
    · rw [if_neg h1]
      go_enter Tryd.func42, Tryd.ntmps42
      go_upto_region 5 with (first
        | (refine wpList_runH rfl (exec_allocF rfl (zPc _)) ?_; rw [← HW0.out, ← HG0.out, ← HW1.out, ← HG1.out])
        | fail)
      clear HW0 HG0 HW1 HG1
      have HC0 := Hid.mk' c0
      have HC2 := Hid.mk' c2
      have HC3 := Hid.mk' c3
      clear c0 c2 c3
      refine region_chain [] [0, 1, 2, 3, 4, 5] (Grow W1) (Grow W1) (by kernel_rfl) (by kernel_rfl) (fun _ _ h k => h.trans k) (fun _ h => h) ((But.refl _ W1).drew) ?_
      intro ι hne X hX
      have d0 : ∀ z, (X z).cell? ⟨g0, 0, none⟩ = some (.int .i64 a0) := fun z => grow_cell (hX z) HC0.out
      have d2 : ∀ z, (X z).cell? ⟨g0, 2, none⟩ = some (.int .i64 a2) := fun z => grow_cell (hX z) HC2.out
      iterate 6 (refine still_step rfl (fun K hK => ?_); go_simp; refine hK _ ?_; clear hK K)
      refine still_nil ?_
      clear hX hne d0 d2
      intro w2 hw2
      have HG2 := Hid.mk' hw2
      have c3 := grow_cell hw2 HC3.out
      clear hw2 HC0 HC2 HC3
      go_wp2
      have hlni : (ln : Int) ≤ 100000 := by have := HLN.out; omega
      go_loopw [6, 7, 35] (fun fv mv iv wr => ∃ (i : Nat) (f m : Int), i ≤ ln ∧ iv = .int .i64 i ∧ fv = .int .i64 f ∧ mv = .int .i64 m ∧ parGo b tp a0 a2 ls = parGo b tp f m (ls.drop i) ∧ Grow W1 wr) (fun _ _ iv _ => ln - (intOf iv).toNat)
      case atStart => exact ⟨0, a0, a2, Nat.zero_le _, rfl, rfl, rfl, rfl, HG2.out⟩
      case round =>
        clear HG2 c3
        obtain ⟨i, f, m, hil, rfl, rfl, rfl, hpe, hG⟩ := hrel
        have HPE := Hid.mk' hpe
        have HG := Hid.mk' hG
        clear hpe hG
        by_cases hlt : i < ln
        · have hlti : (i : Int) < (ln : Int) := by omega
          obtain ⟨bb, o1, k1, e1, -, -, hc1⟩ := HV.out.at (by have := HLE.out; omega)
          simp only [Value.slice.injEq] at e1
          obtain ⟨rfl, -, rfl⟩ := e1
          obtain ⟨u, hu⟩ : ∃ u, u = ls.getD i 0 := ⟨_, rfl⟩
          have cu := grow_cell HG.out (grow_cell HM.out.grow (hc1 i (by have := HLE.out; omega)))
          have hdr : ls.drop i = u :: ls.drop (i + 1) := by
            have h9 : i < ls.length := by have := HLE.out; omega
            rw [List.drop_eq_getElem_cons h9, hu, List.getD_eq_getElem?_getD, List.getElem?_eq_getElem h9]; rfl
          rw [← hu] at cu
          rw [hdr, parGo_cons] at HPE
          obtain ⟨a, ha⟩ : ∃ a, a = sb b f := ⟨_, rfl⟩
          obtain ⟨t, ht⟩ : ∃ t, t = ad f m := ⟨_, rfl⟩
          have x1 : IntKind.i64.wrap (b - f) = a := ha.symm
          have x2 : IntKind.i64.wrap (f + m) = t := ht.symm
          rw [← ha, ← ht] at HPE
          clear ha ht hu hc1 hdr
          by_cases hm : a < m
          · rw [if_pos hm] at HPE
            obtain ⟨q, hq⟩ : ∃ q, q = dv a 8 := ⟨_, rfl⟩
            obtain ⟨r, hr⟩ : ∃ r, r = ad t q := ⟨_, rfl⟩
            obtain ⟨z, hz⟩ : ∃ z, z = Int.tmod a 8 := ⟨_, rfl⟩
            have x3 : IntKind.i64.wrap (a.tdiv 8) = q := hq.symm
            have x4 : IntKind.i64.wrap (t + q) = r := hr.symm
            have x5 : Int.tmod a 8 = z := hz.symm
            have z1 : z < 8 := by rw [hz]; exact Int.tmod_lt_of_pos a (by decide)
            have z0 : -8 < z := by
              rw [hz]
              have := Int.tmod_lt_of_pos (-a) (b := 8) (by decide)
              rw [Int.neg_tmod] at this
              omega
            rw [← hq, ← hr, ← hz] at HPE
            have HA := Hid.mk' (HM.out.ans.but HG.out (fun h => h))
            clear hq hr hz hil hlt
            go_wp2_with (first
              | (refine wpList_store_at rfl _ _ _ rfl g1 0 (plc r z) rfl rfl 78 [] (plc 0 0) [] (by simpa using HA.out) rfl rfl iPc (plc_one _ _) ?_; intro w3 hb3 hbut3; rw [List.nil_append, List.append_nil] at hb3)
              | fail)
            exact bodyPost_ret (results_plan_tmp rfl _ _ g1 _ _ _ _ rfl hb3 Tryd.underlying78 rfl iPc rfl) rfl ⟨by rw [HPE.out]; rfl, HM.out.fin HG.out hbut3⟩
          · rw [if_neg hm] at HPE
            have HLT := Hid.mk' hlt
            clear hil hlt
            go_wp2
            exact ⟨⟨i + 1, t, u, by have := HLT.out; omega, by go_num, rfl, rfl, HPE.out, HG.out⟩, by simp [intOf]; have := HLT.out; omega⟩
        · have hlti : ¬ (i : Int) < (ln : Int) := by omega
          have hdr : ls.drop i = [] := by rw [List.drop_eq_nil_iff]; have := HLE.out; omega
          rw [hdr, parGo_nil] at HPE
          have HCW : Hid (∀ j u, (pcells p (.slice la ln lc))[j]? = some u → wr.cell? ((⟨g0, 0, none⟩ : Addr).add j) = some u) := fun j u hj => by
            rw [addr_add, Nat.zero_add, (HM.out.box.but HG.out (fun h => h)).cell j]; exact hj
          clear hdr hil hlt
          go_wp2_with (first
            | (refine wpList_load_cells rfl _ _ rfl ⟨g0, 0, none⟩ rfl (pcells p (.slice la ln lc)) _ HCW.out Tryd.underlying25 rfl iPl ?_)
            | fail)
          refine Calls.mono (HTP.out _) ?_
          rintro e w4 ⟨rfl, hg4⟩
          have HG4 := Hid.mk' (HG.out.trans hg4)
          have HA := Hid.mk' (HM.out.ans.but HG4.out (fun h => h))
          clear hg4 HCW HTP
          by_cases hbt : b = tp
          · rw [if_pos hbt] at HPE
            have hbb : (b == tp) = true := by simpa using hbt
            clear hbt
            go_wp2_with (first
              | (refine wpList_store_at rfl _ _ _ rfl g1 0 (plc 0 0) rfl rfl 78 [] (plc 0 0) [] (by simpa using HA.out) rfl rfl iPc (plc_one _ _) ?_; intro w3 hb3 hbut3; rw [List.nil_append, List.append_nil] at hb3)
              | fail)
            exact bodyPost_ret (results_plan_tmp rfl _ _ g1 _ _ _ _ rfl hb3 Tryd.underlying78 rfl iPc rfl) rfl ⟨by rw [HPE.out]; rfl, HM.out.fin HG4.out hbut3⟩
          · rw [if_neg hbt] at HPE
            have hbb : (b == tp) = false := by simpa using hbt
            clear hbt
            go_wp2_with (first
              | (refine wpList_store_at rfl _ _ _ rfl g1 0 (plc 0 0) rfl rfl 78 [] (plc 0 0) [] (by simpa using HA.out) rfl rfl iPc (plc_one _ _) ?_; intro w3 hb3 hbut3; rw [List.nil_append, List.append_nil] at hb3)
              | fail)
            exact bodyPost_ret (results_plan_tmp rfl _ _ g1 _ _ _ _ rfl hb3 Tryd.underlying78 rfl iPc rfl) rfl ⟨by rw [HPE.out]; rfl, HM.out.fin HG4.out hbut3⟩
end Go.Proofs.YtmlladpmecclbaaDoor
/- plan: climb, whatever visit is. -/
namespace Go.Proofs.YtmlladpmecclbaaDoor
open Go.RowKit

theorem wrap_in (x : Int) : i64 (IntKind.i64.wrap x) := by
  unfold i64
  simp [IntKind.wrap, IntKind.bits, IntKind.signed]
  omega
theorem Nums.keep {R : Nat → Prop} {w w' : World} {v : Value} {fs : List Int} (h : Nums w v fs) (k : But R w w') (hr : 0 < fs.length → ∀ j, v.ownBlock = some j → ¬ R j) : Nums w' v fs := by
  rcases Nat.eq_zero_or_pos fs.length with h0 | h0
  · obtain ⟨h1, h2, h3 | ⟨h4, -⟩⟩ := h
    · exact ⟨h1, h2, .inl h3⟩
    · omega
  · exact h.but k (fun j hj _ => hr h0 j hj)
theorem Nums.low {w : World} {v : Value} {fs : List Int} (h : Nums w v fs) (h0 : 0 < fs.length) : ∀ j, v.ownBlock = some j → j < w.heap.size := by
  obtain ⟨b, off, cap, rfl, -, hb, -⟩ := h.at h0
  intro j hj
  have h9 : some b = some j := hj
  have := Option.some.inj h9
  omega
def climbL : Int → Int → Int → List Int → List Int
  | a, f, _, [] => [ad f a]
  | a, f, m, b :: ls => ad f a :: climbL (dv a 8) (ad f m) b ls
def climbT : Int → Int → Int → List Int → List Int
  | _, _, _, [] => []
  | a, f, m, b :: ls => climbL (dv a 8) (ad f m) b ls
theorem climb_eq (a f m : Int) (ls : List Int) : climbL a f m ls = ad f a :: climbT a f m ls := by cases ls <;> rfl
theorem climbT_cons (a f m b : Int) (ls : List Int) : climbT a f m (b :: ls) = climbL (dv a 8) (ad f m) b ls := rfl
def Pn.path (p : Pn) (x : Int) : List Int := climbL (dv x 16) p.pages p.counters p.levels
def runB (B : List Int → Int → Bool) : List Int → List Int → List Int
  | ds, [] => ds
  | ds, x :: t => if B ds x then runB B (ds ++ [x]) t else ds ++ [x]
theorem runB_cons (B : List Int → Int → Bool) (ds : List Int) (x : Int) (t : List Int) : runB B ds (x :: t) = if B ds x then runB B (ds ++ [x]) t else ds ++ [x] := rfl
/-- New blocks are kept. -/
def FF (F : Nat → Prop) (w w' : World) : Nat → Prop := fun b => F b ∨ (w.heap.size ≤ b ∧ b < w'.heap.size)
def ClTo (I : (Nat → Prop) → World → List Int → Prop) (F : Nat → Prop) (w : World) (R : List Int) (e : Ending) (w' : World) : Prop := e = .returned (.tuple #[]) ∧ (∃ F', (∀ b, F b → F' b) ∧ I F' w' R) ∧ But (fun b => ¬ F b) w w'
set_option maxRecDepth 100000 in
set_option maxHeartbeats 2000000 in
theorem climb_any (w : World) (p : Pn) (v : Value) (x : Int) (fn g : Nat) (I : (Nat → Prop) → World → List Int → Prop) (B : List Int → Int → Bool) (F : Nat → Prop)
    (hv : Nums w v p.levels) (hlen : p.levels.length ≤ 100000) (hF : 0 < p.levels.length → ∀ b, v.ownBlock = some b → F b) (hI : I F w [])
    (hent : ∀ (a : Array Value) (w : World), (callFunc fn a).run Tryd.prog w = .ok (.enter fn a) w)
    (hsame : ∀ F w w' ds, I F w ds → Grow w w' → I F w' ds)
    (hnew : ∀ F w w' ds, I F w ds → Grow w w' → I (FF F w w') w' ds)
    (hstep : ∀ F w ds x, I F w ds → i64 x → ds.length ≤ 100000 → Calls Tryd.prog fn #[.int .i64 x, ptr g] w fun e w' => e = .returned (.bool (B ds x)) ∧ I F w' (ds ++ [x]) ∧ But (fun b => ¬ F b) w w') :
    Calls Tryd.prog 40 #[pval p v, .int .i64 x, .func (.func fn) #[] #[ptr g]] w (ClTo I F w (runB B [] (p.path x))) := by
  obtain ⟨W, gp, hbx⟩ := box_pl w p v
  have HW := Hid.mk' hbx.ew
  have HGP := Hid.mk' hbx.eg
  have HBX := Hid.mk' hbx
  have c0 : W.cell? ⟨gp, 0, none⟩ = some (.int .i64 p.pages) := hbx.blk.cell 0
  have c2 : W.cell? ⟨gp, 2, none⟩ = some (.int .i64 p.counters) := hbx.blk.cell 2
  have HC3 : Hid (∀ w', But (fun b => ¬ FF F w W b) W w' → w'.cell? ⟨gp, 3, none⟩ = some v) := fun w' k => (hbx.blk.but k (fun h => h (.inr ⟨by rw [hbx.eg]; exact Nat.le_refl _, hbx.blk.lt⟩))).cell 3
  have HNM : Hid (∀ w', But (fun b => ¬ FF F w W b) W w' → Nums w' v p.levels) := fun w' k => (hv.grow hbx.grow).keep k (fun h0 j hj h => h (.inl (hF h0 j hj)))
  have HI1 := Hid.mk' (hnew F w W [] hI hbx.grow)
  have HST := Hid.mk' (hstep (FF F w W))
  have HEN := Hid.mk' hent
  have HSM := Hid.mk' (hsame (FF F w W))
  have HBT : Hid (∀ w', But (fun b => ¬ FF F w W b) W w' → But (fun b => ¬ F b) w w') := fun w' k => (hbx.grow.mono (fun _ _ h => h.elim)).then k (fun i hi h hF => h (.inl hF))
  unfold Pn.path
  generalize hpg : p.pages = a0 at c0 ⊢
  generalize hct : p.counters = a2 at c2 ⊢
  generalize hlv : p.levels = ls at HNM hlen ⊢
  obtain ⟨la, lc, hve⟩ := hv.len
  rw [hlv] at hve
  obtain ⟨ln, hln⟩ : ∃ ln, ln = ls.length := ⟨_, rfl⟩
  rw [← hln] at hve hlen
  have HLE := Hid.mk' hln
  have hlni : (ln : Int) ≤ 100000 := by omega
  unfold pval
  obtain ⟨N, hN⟩ : ∃ N, N = (pcells p v).toArray := ⟨_, rfl⟩
  rw [← hN] at HW ⊢
  obtain ⟨F1, hF1⟩ : ∃ F1, F1 = FF F w W := ⟨_, rfl⟩
  rw [← hF1] at HC3 HNM HI1 HST HBT HSM
  have HF1 : Hid (∀ b, F b → F1 b) := fun b hb => by rw [hF1]; exact .inl hb
  obtain ⟨q, hq⟩ : ∃ q, q = dv x 16 := ⟨_, rfl⟩
  rw [← hq]
  have e1 : IntKind.i64.wrap (x.tdiv 16) = q := hq.symm
  obtain ⟨R, hR⟩ : ∃ R, R = runB B [] (climbL q a0 a2 ls) := ⟨_, rfl⟩
  rw [← hR]
  rw [climb_eq, runB_cons, List.nil_append] at hR
  obtain ⟨y, hy⟩ : ∃ y, y = ad a0 q := ⟨_, rfl⟩
  have e2 : IntKind.i64.wrap (a0 + q) = y := hy.symm
  have HYI : Hid (i64 y) := Hid.mk' (by rw [hy]; exact wrap_in _)
  rw [← hy] at hR
  have HR := Hid.mk' hR
  clear hbx hv hlen hF hI hnew hstep hent hsame hpg hct hlv hln hN hF1 hq hR hy
  subst hve
  go_enter Tryd.func40, Tryd.ntmps40
  go_upto_region 1 with fail
  rw [← HW.out, ← HGP.out]
  clear HW HGP
  go_upto_region 2 with fail
  have HC0 := Hid.mk' c0
  have HC2 := Hid.mk' c2
  clear c0 c2
  refine region_chain [] [0, 1, 2, 3, 4, 5] (Grow W) (Grow W) (by kernel_rfl) (by kernel_rfl) (fun _ _ h k => h.trans k) (fun _ h => h) ((But.refl _ W).drew) ?_
  intro ι hne X hX
  have d0 : ∀ z, (X z).cell? ⟨gp, 0, none⟩ = some (.int .i64 a0) := fun z => grow_cell (hX z) HC0.out
  have d2 : ∀ z, (X z).cell? ⟨gp, 2, none⟩ = some (.int .i64 a2) := fun z => grow_cell (hX z) HC2.out
  iterate 6 (refine still_step rfl (fun K hK => ?_); go_simp; refine hK _ ?_; clear hK K)
  refine still_nil ?_
  clear hX hne d0 d2 HC0 HC2
  intro w2 hw2
  have HG2 := Hid.mk' hw2
  clear hw2
  go_wp2_with fail
  rw [HEN.out]
  refine Calls.mono (HST.out _ _ _ (HSM.out _ _ _ HI1.out HG2.out) HYI.out (Nat.zero_le _)) ?_
  rintro e w3 ⟨rfl, hI3, hb3⟩
  have hbw : But (fun b => ¬ F1 b) W w3 := (HG2.out.mono (fun _ _ h => h.elim)).trans hb3
  have HI3 := Hid.mk' hI3
  have HB3 := Hid.mk' hbw
  have HR3 : Hid (R = if B [] y then runB B [y] (climbT q a0 a2 ls) else [y]) := HR.out
  clear hI3 hb3 hbw HI1 HG2 HR HYI
  go_wp2
  generalize B [] y = mo at HR3 ⊢
  go_loopw [6, 7, 8, 9, 10] (fun av fv mv ov iv wr => ∃ (i : Nat) (a f m : Int) (o : Bool) (ds : List Int), i ≤ ln ∧ ds.length = i + 1 ∧ av = .int .i64 a ∧ fv = .int .i64 f ∧ mv = .int .i64 m ∧ ov = .bool o ∧ iv = .int .i64 i ∧ (R = if o then runB B ds (climbT a f m (ls.drop i)) else ds) ∧ I F1 wr ds ∧ But (fun b => ¬ F1 b) W wr) (fun _ _ _ _ iv _ => ln - (intOf iv).toNat)
  case atStart => exact ⟨0, q, a0, a2, mo, [y], Nat.zero_le _, rfl, rfl, rfl, rfl, rfl, rfl, HR3.out, HI3.out, HB3.out⟩
  case round =>
    clear HI3 HB3 HR3
    obtain ⟨i, a, f, m, o, ds, hil, hdl, rfl, rfl, rfl, rfl, rfl, hR, hI, hB⟩ := hrel
    have HR := Hid.mk' hR
    have HI := Hid.mk' hI
    have HB := Hid.mk' hB
    have HDL := Hid.mk' hdl
    clear hR hI hB hdl
    cases o with
    | false =>
      have HRE : Hid (R = ds) := HR.out
      go_wp2
      refine bodyPost_ret (results_none rfl _ _ _) rfl ?_
      exact ⟨rfl, ⟨F1, HF1.out, by rw [HRE.out]; exact HI.out⟩, HBT.out _ HB.out⟩
    | true =>
      by_cases hlt : i < ln
      · have hlti : (i : Int) < (ln : Int) := by omega
        have c3 := HC3.out _ HB.out
        obtain ⟨bb, o1, k1, e3, -, -, hc1⟩ := (HNM.out _ HB.out).at (by have := HLE.out; omega)
        simp only [Value.slice.injEq] at e3
        obtain ⟨rfl, -, rfl⟩ := e3
        obtain ⟨u, hu⟩ : ∃ u, u = ls.getD i 0 := ⟨_, rfl⟩
        have cu := hc1 i (by have := HLE.out; omega)
        have hdr : ls.drop i = u :: ls.drop (i + 1) := by
          have h9 : i < ls.length := by have := HLE.out; omega
          rw [List.drop_eq_getElem_cons h9, hu, List.getD_eq_getElem?_getD, List.getElem?_eq_getElem h9]; rfl
        rw [← hu] at cu
        have hR2 : R = runB B ds (climbT a f m (ls.drop i)) := HR.out
        rw [hdr, climbT_cons, climb_eq, runB_cons] at hR2
        obtain ⟨a', ha⟩ : ∃ a', a' = dv a 8 := ⟨_, rfl⟩
        obtain ⟨f', hf⟩ : ∃ f', f' = ad f m := ⟨_, rfl⟩
        obtain ⟨y', hy⟩ : ∃ y', y' = ad f' a' := ⟨_, rfl⟩
        rw [← ha, ← hf, ← hy] at hR2
        have x1 : IntKind.i64.wrap (a.tdiv 8) = a' := ha.symm
        have x2 : IntKind.i64.wrap (f + m) = f' := hf.symm
        have x3 : IntKind.i64.wrap (f' + a') = y' := hy.symm
        have HYI : Hid (i64 y') := Hid.mk' (by rw [hy]; exact wrap_in _)
        have HR2 := Hid.mk' hR2
        have HLT := Hid.mk' hlt
        clear hu hc1 hdr hR2 ha hf hy hil hlt HR
        go_upto_region 8 with fail
        have HC3' := Hid.mk' c3
        have HCU := Hid.mk' cu
        clear c3 cu
        refine region_chain [] [0, 1, 2, 3, 4, 5, 6, 7, 8, 9] (Grow wr) (Grow wr) (by kernel_rfl) (by kernel_rfl) (fun _ _ h k => h.trans k) (fun _ h => h) ((But.refl _ wr).drew) ?_
        intro ι hne X hX
        have d0 : ∀ z, (X z).cell? ⟨gp, 3, none⟩ = some (.slice (some ⟨bb, o1, none⟩) ln lc) := fun z => grow_cell (hX z) HC3'.out
        have d2 : ∀ z, (X z).cell? ⟨bb, o1 + i, none⟩ = some (.int .i64 u) := fun z => grow_cell (hX z) HCU.out
        iterate 10 (refine still_step rfl (fun K hK => ?_); go_simp; refine hK _ ?_; clear hK K)
        refine still_nil ?_
        clear hX hne d0 d2 HC3' HCU
        intro w4 hw4
        have HG4 := Hid.mk' hw4
        clear hw4
        go_wp2_with fail
        rw [HEN.out]
        refine Calls.mono (HST.out _ _ _ (HSM.out _ _ _ HI.out HG4.out) HYI.out (by have := HDL.out; have := HLT.out; omega)) ?_
        rintro e w5 ⟨rfl, hI5, hb5⟩
        have HI5 := Hid.mk' hI5
        have HB5 := Hid.mk' ((HB.out.then HG4.out (fun _ _ h => h.elim)).trans hb5)
        generalize B ds y' = mo2 at HR2 ⊢
        clear hI5 hb5
        go_wp2
        exact ⟨⟨i + 1, a', f', u, mo2, ds ++ [y'], by have := HLT.out; omega, by rw [List.length_append, HDL.out]; rfl, rfl, rfl, rfl, rfl, by go_num, HR2.out, HI5.out, HB5.out⟩, by simp [intOf]; have := HLT.out; omega⟩
      · have hlti : ¬ (i : Int) < (ln : Int) := by omega
        have c3 := HC3.out _ HB.out
        have hdr : ls.drop i = [] := by rw [List.drop_eq_nil_iff]; have := HLE.out; omega
        have HRE : Hid (R = ds) := Hid.mk' (by rw [HR.out, hdr]; rfl)
        clear hdr hil
        go_wp2
        refine bodyPost_ret (results_none rfl _ _ _) rfl ?_
        exact ⟨rfl, ⟨F1, HF1.out, by rw [HRE.out]; exact HI.out⟩, HBT.out _ HB.out⟩
end Go.Proofs.YtmlladpmecclbaaDoor
/- plan: Path. -/
namespace Go.Proofs.YtmlladpmecclbaaDoor
open Go.RowKit

/-- What memory is amid Path: the row so far is in the variable g. -/
structure PathI (g : Nat) (F : Nat → Prop) (w : World) (ds : List Int) : Prop where
  ex : ∃ r, Blk w g 23 [r] ∧ w.ownsRow 0 3 1 r ds.length (numv ds) ∧ ∀ k, r.ownBlock = some k → ¬ F k ∧ k ≠ g
  nf : ¬ F g
  lt : ∀ b, F b → b < w.heap.size
theorem PathI.same {g : Nat} {F : Nat → Prop} {w w' : World} {ds : List Int} (h : PathI g F w ds) (k : Grow w w') : PathI g F w' ds := by
  obtain ⟨r, h1, h2, h3⟩ := h.ex
  exact ⟨⟨r, h1.but k (fun h => h), ownsRow_grow h2 k, h3⟩, h.nf, fun b hb => Nat.lt_of_lt_of_le (h.lt b hb) k.size⟩
theorem PathI.new {g : Nat} {F : Nat → Prop} {w w' : World} {ds : List Int} (h : PathI g F w ds) (k : Grow w w') : PathI g (FF F w w') w' ds := by
  obtain ⟨r, h1, h2, h3⟩ := h.ex
  refine ⟨⟨r, h1.but k (fun h => h), ownsRow_grow h2 k, fun j hj => ⟨fun hf => ?_, (h3 j hj).2⟩⟩, fun hf => ?_, fun b hb => ?_⟩
  · rcases hf with hf | hf
    · exact (h3 j hj).1 hf
    · have := (World.ownsRow.lt h2 j hj).2
      omega
  · rcases hf with hf | hf
    · exact h.nf hf
    · have := h1.lt
      omega
  · rcases hb with hb | hb
    · exact Nat.lt_of_lt_of_le (h.lt b hb) k.size
    · exact hb.2
set_option maxRecDepth 100000 in
theorem path1_any (g : Nat) (F : Nat → Prop) (w : World) (ds : List Int) (x : Int) (h : PathI g F w ds) (hl : ds.length ≤ 100000) : Calls Tryd.prog 41 #[.int .i64 x, ptr g] w fun e w' => e = .returned (.bool true) ∧ PathI g F w' (ds ++ [x]) ∧ But (fun b => ¬ F b) w w' := by
  obtain ⟨r, hb, hr, hn⟩ := h.ex
  have c0 : w.cell? ⟨g, 0, none⟩ = some r := hb.cell 0
  obtain ⟨ra, rc, hre⟩ := own_sl hr
  have HR := Hid.mk' hr
  have HB := Hid.mk' hb
  have HN := Hid.mk' hn
  have HH := Hid.mk' h
  have HL := Hid.mk' hl
  obtain ⟨dl, hdl⟩ : ∃ n, n = ds.length := ⟨_, rfl⟩
  rw [← hdl] at HR hre
  have HDL := Hid.mk' hdl
  have HAL : Hid (Grow w (w.alloc (.cells #[.int .i64 x] 3))) := (But.refl _ w).alloc _
  have HBL : Hid (Blk (w.alloc (.cells #[.int .i64 x] 3)) w.heap.size 3 (numv [x])) := Blk.new (L := numv [x]) rfl
  clear hb hr hn h hl hdl
  subst hre
  go_enter Tryd.func41, Tryd.ntmps41
  go_wp2_with (first
    | (refine wpList_runH rfl (exec_row1 (v := .int .i64 x) Tryd.underlying23 infNum (by decide) (by decide) rfl rfl rfl) ?_)
    | (refine wpList_someH rfl (exec_append (v := .slice ra dl rc) (n := dl) (xs := numv ds) (news := numv [x]) Tryd.underlying23 infNum rfl (by decide) rfl rfl (ownsRow_grow HR.out HAL.out) rfl rfl (fun j u hj => HBL.out.cells0 j u hj) (fun u hu => by rw [show u = .int .i64 x by simpa [numv] using hu]; rfl) (by have := HL.out; have := HDL.out; omega) (by decide)) ?_; intro v4 w4 hap
       obtain ⟨va, vc, e4⟩ := own_sl hap.own
       subst e4
       have hb4 : Blk w4 g 23 [.slice ra dl rc] := (HB.out.but HAL.out (fun h => h)).but hap.but (fun e => (HN.out g e).2 rfl))
    | (refine wpList_store1 (g := g) (i := 0) rfl iSl rfl rfl rfl rfl hb4 (show 0 < 1 by decide) ?_; intro w5 hb5 hbut5)
    | fail)
  have hn4 : ∀ k, (Value.slice va (dl + 1) vc).ownBlock = some k → ¬ F k ∧ k ≠ g := fun k hk => by
    rcases hap.at' with e | e
    · exact HN.out k (by rw [← e]; exact hk)
    · rw [e] at hk
      have h9 := Option.some.inj hk
      have hs := HAL.out.size
      have := HB.out.lt
      refine ⟨fun hf => ?_, by omega⟩
      have := HH.out.lt k hf
      omega
  have hk4 : But (fun b => ¬ F b) w w4 := (HAL.out.mono (fun _ _ h => h.elim)).then hap.but (fun b hb e => (HN.out b e).1)
  have hk5 : But (fun b => ¬ F b) w w5 := hk4.then hbut5 (fun b hb e => by rw [e]; exact HH.out.nf)
  have hd1 : (ds ++ [x]).length = dl + 1 := by rw [List.length_append, List.length_singleton, ← HDL.out]
  go_ret
  refine ⟨rfl, ⟨⟨_, hb5, ?_, hn4⟩, HH.out.nf, fun b hb => Nat.lt_of_lt_of_le (HH.out.lt b hb) hk5.size⟩, hk5⟩
  rw [hd1, show numv (ds ++ [x]) = numv ds ++ numv [x] by simp [numv]]
  exact ownsRow_but hap.own hbut5 (fun j hj e => (hn4 j hj).2 e)
theorem run_true : ∀ (l ds : List Int), runB (fun _ _ => true) ds l = ds ++ l
  | [], ds => (List.append_nil ds).symm
  | x :: t, ds => by rw [runB_cons, if_pos rfl, run_true t (ds ++ [x]), List.append_assoc]; rfl
def PathTo (w : World) (l : List Int) (e : Ending) (w' : World) : Prop := ∃ v, e = .returned (.tuple #[v, .int .i64 0]) ∧ Own w w' v l ∧ Grow w w'
theorem ent1 (a : Array Value) (w : World) : (callFunc 41 a).run Tryd.prog w = .ok (.enter 41 a) w := by
  kernel_rfl
theorem zSl (w : World) : (zeroValue 23).run Tryd.prog w = .ok (.slice none 0 0) w := by kernel_rfl
set_option maxRecDepth 100000 in
theorem path_not (w : World) (p : Pn) (v : Value) (x : Int) (h : p.has x = false) : Calls Tryd.prog 27 #[pval p v, .int .i64 x] w fun e w' => e = .returned (.tuple #[noS, .int .i64 1]) ∧ Grow w w' := by
  obtain ⟨W, gp, hbx⟩ := box_pl w p v
  have HW := Hid.mk' hbx.ew
  have HGP := Hid.mk' hbx.eg
  have HG := Hid.mk' hbx.grow
  have HCW : Hid (∀ j u, (pcells p v)[j]? = some u → W.cell? ((⟨gp, 0, none⟩ : Addr).add j) = some u) := fun j u hj => by
    rw [addr_add, Nat.zero_add, hbx.blk.cell j]; exact hj
  have HTH := Hid.mk' (there_any W p v x)
  rw [h] at HTH
  unfold pval
  obtain ⟨N, hN⟩ : ∃ N, N = (pcells p v).toArray := ⟨_, rfl⟩
  rw [← hN] at HW ⊢
  clear hbx hN h
  go_enter Tryd.func27, Tryd.ntmps27
  go_upto_region 1 with fail
  rw [← HW.out, ← HGP.out]
  clear HW HGP
  go_wp2_with (first
    | (refine wpList_load_cells rfl _ _ rfl ⟨gp, 0, none⟩ rfl (pcells p v) _ HCW.out Tryd.underlying25 rfl iPl ?_)
    | fail)
  refine Calls.mono HTH.out ?_
  rintro e w2 ⟨rfl, hg2⟩
  have HG2 := Hid.mk' (HG.out.trans hg2)
  clear hg2 HTH HCW
  go_wp2
  exact bodyPost_ret (results_tmp2 rfl _ _ _) rfl ⟨rfl, HG2.out⟩
set_option maxRecDepth 100000 in
theorem path_any (w : World) (p : Pn) (v : Value) (x : Int) (h : p.has x = true) (hv : Nums w v p.levels) (hlen : p.levels.length ≤ 100000) : Calls Tryd.prog 27 #[pval p v, .int .i64 x] w (PathTo w (p.path x)) := by
  obtain ⟨W, gp, hbx⟩ := box_pl w p v
  have HW := Hid.mk' hbx.ew
  have HGP := Hid.mk' hbx.eg
  have HBX := Hid.mk' hbx
  have HV := Hid.mk' hv
  have HLN := Hid.mk' hlen
  have HCW : Hid (∀ j u, (pcells p v)[j]? = some u → W.cell? ((⟨gp, 0, none⟩ : Addr).add j) = some u) := fun j u hj => by
    rw [addr_add, Nat.zero_add, hbx.blk.cell j]; exact hj
  have HTH := Hid.mk' (there_any W p v x)
  rw [h] at HTH
  unfold pval
  obtain ⟨N, hN⟩ : ∃ N, N = (pcells p v).toArray := ⟨_, rfl⟩
  rw [← hN] at HW ⊢
  clear hbx hN h hv hlen
  go_enter Tryd.func27, Tryd.ntmps27
  go_upto_region 1 with fail
  rw [← HW.out, ← HGP.out]
  clear HW HGP
  go_wp2_with (first
    | (refine wpList_load_cells rfl _ _ rfl ⟨gp, 0, none⟩ rfl (pcells p v) _ HCW.out Tryd.underlying25 rfl iPl ?_)
    | fail)
  refine Calls.mono HTH.out ?_
  rintro e w2 ⟨rfl, hg2⟩
  have HG2 := Hid.mk' (HBX.out.grow.trans hg2)
  obtain ⟨g, hg⟩ : ∃ g, g = w2.heap.size := ⟨_, rfl⟩
  obtain ⟨w3, hw3⟩ : ∃ w3, w3 = w2.alloc (.cells #[noS] 23) := ⟨_, rfl⟩
  have hb3 : Blk w3 g 23 [noS] := by rw [hw3]; exact Blk.new (L := [noS]) hg.symm
  have hg3 : Grow w2 w3 := by rw [hw3]; exact (But.refl _ w2).alloc _
  have HCW3 : Hid (∀ j u, (pcells p v)[j]? = some u → w3.cell? ((⟨gp, 0, none⟩ : Addr).add j) = some u) := fun j u hj => by
    rw [addr_add, Nat.zero_add, ((HBX.out.blk.but hg2 (fun h => h)).but hg3 (fun h => h)).cell j]; exact hj
  have HG3 := Hid.mk' (HG2.out.trans hg3)
  have HCL := Hid.mk' (climb_any w3 p v x 41 g (PathI g) (fun _ _ => true) (fun b => b < w.heap.size) (HV.out.grow HG3.out) HLN.out HV.out.low
    ⟨⟨noS, hb3, World.ownsRow_nil _ _ _ _, fun k hk => by cases hk⟩, (by have := HG2.out.size; omega), (fun b hb => Nat.lt_of_lt_of_le hb HG3.out.size)⟩
    ent1 (fun F w w' ds h k => h.same k) (fun F w w' ds h k => h.new k) (fun F w ds x h _ hl => path1_any g F w ds x h hl))
  rw [run_true, List.nil_append] at HCL
  have HW3 := Hid.mk' hw3
  have HGE := Hid.mk' hg
  clear hg2 HTH HCW hg hw3 hb3 hg3
  go_upto_region 4 with (first
    | fail)
  rw [← HW3.out, ← HGE.out]
  clear HW3 HGE
  go_wp2_with (first
    | (refine wpList_load_cells rfl _ _ rfl ⟨gp, 0, none⟩ rfl (pcells p v) _ HCW3.out Tryd.underlying25 rfl iPl ?_)
    | fail)
  refine Calls.mono HCL.out ?_
  rintro e w5 ⟨rfl, ⟨F', hF', hI⟩, hb⟩
  obtain ⟨r, hb5, hr5, hn5⟩ := hI.ex
  have c5 : w5.cell? ⟨g, 0, none⟩ = some r := hb5.cell 0
  have HO : Hid (Own w w5 r (p.path x)) := ⟨hr5, fun k hk => by
    have h1 := (hn5 k hk).1
    rcases Nat.lt_or_ge k w.heap.size with h2 | h2
    · exact absurd (hF' k h2) h1
    · exact h2⟩
  have HG5 : Hid (Grow w w5) := HG3.out.then hb (fun i hi h => h hi)
  obtain ⟨va, vc, e5⟩ := own_sl hr5
  subst e5
  clear hI hb hr5 hn5 hb5 hF' HCL
  go_wp2
  exact bodyPost_ret (results_tmp2 rfl _ _ _) rfl ⟨_, rfl, HO.out, HG5.out⟩
end Go.Proofs.YtmlladpmecclbaaDoor
/- plan: Need. -/
namespace Go.Proofs.YtmlladpmecclbaaDoor
open Go.RowKit Go.Maps

def ins (S : List Int) (x : Int) : List Int := if x ∈ S then S else S ++ [x]
def adds (S ds : List Int) : List Int := ds.foldl ins S
theorem adds_more (S ds : List Int) (x : Int) : adds S (ds ++ [x]) = ins (adds S ds) x := by unfold adds; rw [List.foldl_append]; rfl
theorem mem_ins {S : List Int} {x y : Int} : y ∈ ins S x ↔ y ∈ S ∨ y = x := by
  unfold ins
  split
  · rename_i h
    exact ⟨.inl, fun h2 => h2.elim id (fun e => by rw [e]; exact h)⟩
  · simp
theorem ins_nodup {S : List Int} (h : S.Nodup) (x : Int) : (ins S x).Nodup := by
  unfold ins
  split
  · exact h
  · rename_i hx
    rw [List.nodup_append]
    refine ⟨h, by simp, fun a ha b hb e => ?_⟩
    simp at hb
    subst hb
    exact hx (by rw [← e]; exact ha)
abbrev unit0 : Int → Value := fun _ => .agg #[]
/-- Whether a path goes on. -/
def more (S ds : List Int) (y : Int) : Bool := !decide (y ∈ adds S ds)
def addP (p : Pn) (S : List Int) (x : Int) : List Int := if p.has x then adds (ins S x) (runB (more (ins S x)) [] (p.path x)) else S
theorem fold_take {α β : Type} (f : α → β → α) (a : α) (l : List β) (i : Nat) (x : β) (h : l[i]? = some x) : (l.take (i + 1)).foldl f a = f ((l.take i).foldl f a) x := by
  have h3 := List.getElem?_eq_some_iff.1 h
  rw [List.take_succ_eq_append_getElem h3.1, List.foldl_append, h3.2]; rfl
end Go.Proofs.YtmlladpmecclbaaDoor
/- The reference's Pick: what is left of a number, for any divisor. -/
namespace Go.Proofs.YtmlladpmecclbaaDoor
open Go.RowKit

theorem pick_any (x n : Int) (w : World) (h0 : 0 < n) (h1 : n ≤ 1000000000) :
    Calls Tryd.prog 9 #[.int .i64 x, .int .i64 n] w fun e w' => e = .returned (.int .i64 (x % n)) ∧ w' = w := by
  have ht1 : x.tmod n < n := Int.tmod_lt_of_pos x h0
  have ht2 : -n < x.tmod n := by
    have := Int.lt_tmod_of_pos x h0
    omega
  obtain ⟨m, hm⟩ : ∃ m, x.tmod n = m := ⟨_, rfl⟩
  have hem : x % n = if m < 0 then m + n else m := by
    rw [← hm, Int.tmod_eq_emod]
    have h5 := Int.emod_nonneg x (b := n) (by omega)
    have h6 := Int.emod_lt_of_pos x h0
    split
    · rw [if_neg (by omega)]; omega
    · split <;> omega
  rw [hm] at ht1 ht2
  have HEM := Hid.mk' hem
  have hn0 : ¬ n = 0 := by omega
  clear hem
  have hw : IntKind.i64.wrap m = m := by simp [IntKind.wrap, IntKind.bits, IntKind.signed]; omega
  by_cases hneg : m < 0
  · go_enter Tryd.func9, Tryd.ntmps9
    go_wp2
    go_ret
    refine ⟨?_, rfl⟩
    rw [HEM.out, if_pos hneg]; rfl
  · go_enter Tryd.func9, Tryd.ntmps9
    go_wp2
    go_ret
    refine ⟨?_, rfl⟩
    rw [HEM.out, if_neg (by omega)]; rfl
end Go.Proofs.YtmlladpmecclbaaDoor
/- The document's example for plan; a plan of numbers brought right. -/
namespace Go.Proofs.YtmlladpmecclbaaDoor
open Go.RowKit

theorem ex_levels : (plan 20 4).levels = [1] := by decide +kernel
theorem ex_plan : plan 20 4 = ⟨20, 4, 2, [1], 1, 23, 1, 24, 28, 32⟩ := by
  have e2 : bg 20 16 = 2 := by decide +kernel
  have e3 : bg (12 + 4 * 4) 256 = 1 := by decide +kernel
  unfold plan
  simp only [e2, e3]
  rfl
theorem ex_path : (plan 20 4).path 17 = [21, 22] := by rw [ex_plan]; decide +kernel
theorem ex_need : ([0, 1, 17].foldl (addP (plan 20 4)) []).length = 6 := by rw [ex_plan]; decide +kernel
theorem ex_has : (plan 20 4).has 17 = true := by rw [ex_plan]; decide +kernel
theorem Own.blk {w w' : World} {v : Value} {ks : List Int} (h : Own w w' v ks) : ∀ b, v.ownBlock = some b → b < w'.heap.size := fun b hb => (World.ownsRow.lt h.row b hb).2
/-- A plan of the program's in memory: its levels are there. -/
structure Pm (w : World) (n b : Nat) (v : Value) : Prop where
  nums : Nums w v (plan n b).levels
  len : (plan n b).levels.length ≤ 3
theorem plan_lv {n b : Nat} (h1 : 1 ≤ n) (h2 : n ≤ 4096) : (plan n b).levels.length ≤ 3 ∧ ∀ x ∈ (plan n b).levels, -9223372036854775808 ≤ x ∧ x ≤ 9223372036854775807 := by
  have h := lvs_le (c := bg n 16) (by unfold bg; omega) (by unfold bg; omega)
  show (toI (lvs (bg n 16))).length ≤ 3 ∧ ∀ x ∈ toI (lvs (bg n 16)), _
  exact ⟨by rw [toI_len]; exact h.1, toI_i64 (fun x hx => by have := (h.2.2.2 x hx).2; omega)⟩
theorem Pm.of {w w' : World} {n b : Nat} {v : Value} (h1 : 1 ≤ n) (h2 : n ≤ 4096) (h : Own w w' v (plan n b).levels) : Pm w' n b v := by
  have hl := plan_lv (b := b) h1 h2
  exact ⟨h.nums hl.2 (by have := hl.1; omega), hl.1⟩
theorem Pm.grow {w w' : World} {n b : Nat} {v : Value} (h : Pm w n b v) (k : Grow w w') : Pm w' n b v := ⟨h.nums.grow k, h.len⟩
theorem wpList_runG {ops : Array Oper} {rest : List Oper} {o : Oper} {a : Act} {w w' : World} {Q : Exit → Act → World → Prop} {v : Value} (hw : Region.wanted o (yielded ops a.tmps) = true) (hr : (execOp a.eval o).run Tryd.prog w = .ok (.value v) w') (h : wpList Tryd.prog ops Q rest (a.put o.dst v) w') : wpList Tryd.prog ops Q (o :: rest) a w :=
  wpList_want hw fun _ hK => by
    unfold Oper.wp
    rw [hr]
    exact hK _ _ h
/-- A variable for a plan is made. -/
theorem var_new (w : World) : Blk (w.alloc (.cells (pcells Pn.zero noS).toArray 25)) w.heap.size 25 ([] ++ pcells Pn.zero noS ++ []) := by
  rw [List.nil_append, List.append_nil]; exact Blk.new rfl
theorem var_grow {w w2 : World} (k : But (· = w.heap.size) (w.alloc (.cells (pcells Pn.zero noS).toArray 25)) w2) : Grow w w2 :=
  ((But.refl (fun _ => False) w).alloc _).then k (fun j hj e => by omega)
theorem Blk.pl {w : World} {g : Nat} {T : TypeId} {L : List Value} (h : Blk w g T L) : ∀ j u, L[j]? = some u → w.cell? ((⟨g, 0, none⟩ : Addr).add j) = some u := fun j u hj => by
  rw [addr_add, Nat.zero_add, h.cell j]; exact hj
/-- Some numbers in a row that the text lays. -/
theorem nums_lit {w : World} {g : Nat} {ks : List Int} (h : Blk w g 3 (numv ks)) (hk : ∀ x ∈ ks, -9223372036854775808 ≤ x ∧ x ≤ 9223372036854775807) (h0 : 0 < ks.length) (hl : ks.length ≤ 1000) : Nums w (.slice (some ⟨g, 0, none⟩) ks.length ks.length) ks :=
  ⟨hk, by omega, .inr ⟨h0, g, 0, ks.length, rfl, Nat.le_refl _, h.lt, fun i hi => by rw [Nat.zero_add, h.cell i]; simp [numv, hi]⟩⟩
/-- What made tells: a plan of numbers that are brought right. -/
def MadeTo (w : World) (x y : Int) (e : Ending) (w' : World) : Prop := ∃ (n b : Nat) (v : Value), (n : Int) = 1 + x % 4096 ∧ (b : Int) = 1 + y % 256 ∧ e = .returned (.tuple #[pval (plan n b) v, .bool true]) ∧ Own w w' v (plan n b).levels ∧ Grow w w'
end Go.Proofs.YtmlladpmecclbaaDoor
/- Rows of blocks of 256 bytes that are written into. -/
namespace Go.Proofs.YtmlladpmecclbaaDoor
open Go.RowKit

/-- A block of 256 bytes at g, maybe with room behind it. -/
def El (w : World) (u : Value) (g : Nat) (zs : List Nat) : Prop :=
  ∃ cap R, u = .slice (some ⟨g, 0, none⟩) 256 cap ∧ 256 ≤ cap ∧ zs.length = 256 ∧ (∀ z ∈ zs, z < 256) ∧ Blk w g 5 (u8s zs ++ R)
theorem El.but {R : Nat → Prop} {w w' : World} {u : Value} {g : Nat} {zs : List Nat} (h : El w u g zs) (k : But R w w') (hr : ¬ R g) : El w' u g zs := by
  obtain ⟨cap, S, h1, h2, h3, h4, h5⟩ := h
  exact ⟨cap, S, h1, h2, h3, h4, h5.but k hr⟩
theorem El.lt {w : World} {u : Value} {g : Nat} {zs : List Nat} (h : El w u g zs) : g < w.heap.size := by
  obtain ⟨_, _, _, _, _, _, h5⟩ := h
  exact h5.lt
theorem El.bs {w : World} {u : Value} {g : Nat} {zs : List Nat} (h : El w u g zs) : Bs w u zs := by
  obtain ⟨cap, S, rfl, h2, h3, h4, h5⟩ := h
  refine ⟨h4, by omega, .inr ⟨by omega, g, 0, cap, by rw [h3], by omega, h5.lt, fun i hi => ?_⟩⟩
  rw [Nat.zero_add, h5.cell, List.getElem?_append_left (by simpa [u8s] using hi), u8s_get _ _ hi]
theorem El.own {w : World} {u : Value} {g : Nat} {zs : List Nat} (h : El w u g zs) : u.ownBlock = some g := by
  obtain ⟨cap, S, rfl, _⟩ := h
  rfl
theorem El.one {w : World} {u : Value} {g : Nat} {zs : List Nat} (h : El w u g zs) : u.oneCell' = true := by
  obtain ⟨cap, S, rfl, _⟩ := h
  rfl
/-- A row of such blocks, no two of them one. -/
structure Nb (base : Nat) (w : World) (v : Value) (n : Nat) (G : Nat → Nat) (T : Nat → List Nat) : Prop where
  ex : ∃ V : Nat → Value, w.ownsRow 0 22 1 v n ((List.range n).map V) ∧ ∀ i, i < n → El w (V i) (G i) (T i)
  rnew : ∀ k, v.ownBlock = some k → base ≤ k ∧ ∀ i, i < n → G i ≠ k
  gnew : ∀ i, i < n → base ≤ G i
  inj : ∀ i j, i < n → j < n → G i = G j → i = j
theorem Nb.nil (base : Nat) (w : World) (G : Nat → Nat) (T : Nat → List Nat) : Nb base w (.slice none 0 0) 0 G T :=
  ⟨⟨fun _ => undef, World.ownsRow_nil _ _ _ _, fun i hi => absurd hi (Nat.not_lt_zero _)⟩, fun k hk => (by cases hk), fun i hi => absurd hi (Nat.not_lt_zero _), fun i j hi => absurd hi (Nat.not_lt_zero _)⟩
theorem Nb.but {R : Nat → Prop} {base : Nat} {w w' : World} {v : Value} {n : Nat} {G : Nat → Nat} {T : Nat → List Nat} (h : Nb base w v n G T) (k : But R w w') (hr : ∀ j, base ≤ j → j < w.heap.size → ¬ R j) : Nb base w' v n G T := by
  obtain ⟨⟨V, h1, h2⟩, h3, h4, h5⟩ := h
  exact ⟨⟨V, ownsRow_but h1 k (fun j hj => hr j (h3 j hj).1 (h1.lt j hj).2), fun i hi => (h2 i hi).but k (hr _ (h4 i hi) (h2 i hi).lt)⟩, h3, h4, h5⟩
theorem Nb.grow {base : Nat} {w w' : World} {v : Value} {n : Nat} {G : Nat → Nat} {T : Nat → List Nat} (h : Nb base w v n G T) (k : Grow w w') : Nb base w' v n G T := h.but k (fun _ _ _ h => h)
theorem Nb.same {base : Nat} {w : World} {v : Value} {n : Nat} {G : Nat → Nat} {T T' : Nat → List Nat} (h : Nb base w v n G T) (e : ∀ i, i < n → T i = T' i) : Nb base w v n G T' := by
  obtain ⟨⟨V, h1, h2⟩, h3, h4, h5⟩ := h
  exact ⟨⟨V, h1, fun i hi => by rw [← e i hi]; exact h2 i hi⟩, h3, h4, h5⟩
theorem Nb.len {base : Nat} {w : World} {v : Value} {n : Nat} {G : Nat → Nat} {T : Nat → List Nat} (h : Nb base w v n G T) : ∃ a c, v = .slice a n c := by
  obtain ⟨⟨V, h1, _⟩, _⟩ := h
  exact own_sl h1
theorem range_get {α : Type} (f : Nat → α) {n i : Nat} (hi : i < n) : ((List.range n).map f)[i]? = some (f i) := by simp [hi]
/-- One block of it: it may be written into. -/
theorem Nb.opn {base : Nat} {w : World} {v : Value} {n : Nat} {G : Nat → Nat} {T : Nat → List Nat} (h : Nb base w v n G T) {i : Nat} (hi : i < n) :
    ∃ b rc cap R, v = .slice (some ⟨b, 0, none⟩) n rc ∧ w.cell? ⟨b, i, none⟩ = some (.slice (some ⟨G i, 0, none⟩) 256 cap) ∧ 256 ≤ cap ∧ Blk w (G i) 5 (u8s (T i) ++ R) ∧ (T i).length = 256 ∧ (∀ z ∈ T i, z < 256) ∧ b ≠ G i ∧ base ≤ G i ∧
      ∀ w' zs, zs.length = 256 → (∀ z ∈ zs, z < 256) → Blk w' (G i) 5 (u8s zs ++ R) → But (· = G i) w w' → Nb base w' v n G (upd T i zs) := by
  obtain ⟨⟨V, h1, h2⟩, h3, h4, h5⟩ := h
  have hn : ((List.range n).map V).length = n := by simp
  obtain ⟨b, rc, hv, hc⟩ := row_cellP (e := 22) (v := v) (L := (List.range n).map V) (by rw [hn]; exact h1) (by rw [hn]; omega)
  rw [hn] at hv
  obtain ⟨cap, R, e1, e2, e3, e4, e5⟩ := h2 i hi
  have hbo : v.ownBlock = some b := by rw [hv]; rfl
  refine ⟨b, rc, cap, R, hv, by rw [← e1]; exact hc i _ (range_get V hi), e2, e5, e3, e4, fun e => (h3 b hbo).2 i hi e.symm, h4 i hi, fun w' zs hl hz hb' k => ?_⟩
  refine ⟨⟨V, ownsRow_but h1 k (fun j hj e => (h3 j hj).2 i hi e.symm), fun j hj => ?_⟩, h3, h4, h5⟩
  by_cases hji : j = i
  · subst hji
    rw [upd_same]
    exact ⟨cap, R, e1, e2, hl, hz, hb'⟩
  · rw [upd_other _ _ hji]
    exact (h2 j hj).but k (fun e => hji (h5 j i hj hi e))
/-- One more block behind them. -/
theorem Nb.push {base : Nat} {w w' : World} {v v' u : Value} {n g : Nat} {G : Nat → Nat} {T : Nat → List Nat} {zs : List Nat} (h : Nb base w v n G T) (hu : El w u g zs) (hg : base ≤ g) (hb : base ≤ w.heap.size) (hne : ∀ i, i < n → G i ≠ g) (hr : v.ownBlock ≠ some g)
    (hap : Appd w w' 22 1 v v' (n + 1) ((List.range n).map (h.ex.choose) ++ [u])) : Nb base w' v' (n + 1) (upd G n g) (upd T n zs) := by
  have hV := h.ex.choose_spec
  generalize h.ex.choose = V at *
  obtain ⟨h1, h2⟩ := hV
  obtain ⟨_, h3, h4, h5⟩ := h
  have hold : ∀ i, i < n → ¬ (v.ownBlock = some (G i)) := fun i hi e => (h3 _ e).2 i hi rfl
  refine ⟨⟨upd V n u, ?_, fun i hi => ?_⟩, fun k hk => ?_, fun i hi => ?_, fun i j hi hj e => ?_⟩
  · have e : (List.range (n + 1)).map (upd V n u) = (List.range n).map V ++ [u] := by
      rw [List.range_succ, List.map_append, List.map_singleton, upd_same]
      congr 1
      refine List.map_congr_left (fun i hi => upd_other _ _ ?_)
      have := List.mem_range.1 hi
      omega
    rw [e]
    exact hap.own
  · by_cases hin : i = n
    · subst hin
      rw [upd_same, upd_same, upd_same]
      exact hu.but hap.but (fun e => hr e)
    · rw [upd_other _ _ hin, upd_other _ _ hin, upd_other _ _ hin]
      exact (h2 i (by omega)).but hap.but (fun e => hold i (by omega) e)
  · rcases hap.at' with e | e
    · rw [e] at hk
      refine ⟨(h3 k hk).1, fun i hi => ?_⟩
      by_cases hin : i = n
      · rw [hin, upd_same]; exact fun e => hr (by rw [e]; exact hk)
      · rw [upd_other _ _ hin]; exact (h3 k hk).2 i (by omega)
    · rw [e] at hk
      cases hk
      refine ⟨hb, fun i hi => ?_⟩
      by_cases hin : i = n
      · rw [hin, upd_same]; have := hu.lt; omega
      · rw [upd_other _ _ hin]; have := (h2 i (by omega)).lt; omega
  · by_cases hin : i = n
    · rw [hin, upd_same]; exact hg
    · rw [upd_other _ _ hin]; exact h4 i (by omega)
  · by_cases hin : i = n
    · by_cases hjn : j = n
      · omega
      · rw [hin, upd_same, upd_other _ _ hjn] at e
        exact absurd e.symm (hne j (by omega))
    · by_cases hjn : j = n
      · rw [hjn, upd_same, upd_other _ _ hin] at e
        exact absurd e (hne i (by omega))
      · rw [upd_other _ _ hin, upd_other _ _ hjn] at e
        exact h5 i j (by omega) (by omega) e
theorem Nb.row {base : Nat} {w : World} {v : Value} {n : Nat} {G : Nat → Nat} {T : Nat → List Nat} (h : Nb base w v n G T) : w.ownsRow 0 22 1 v n ((List.range n).map h.ex.choose) := h.ex.choose_spec.1
theorem Nb.ps {base : Nat} {w : World} {v : Value} {n : Nat} {G : Nat → Nat} {T : Nat → List Nat} (h : Nb base w v n G T) : Ps w v ((List.range n).map T) := by
  obtain ⟨⟨V, h1, h2⟩, -, -, -⟩ := h
  have := ps_row (w := w) (v := v) (L := (List.range n).map fun i => (V i, T i)) (by rw [List.length_map, List.length_range, List.map_map]; exact h1) (fun e he => by
    obtain ⟨i, hi, rfl⟩ := List.mem_map.1 he
    exact (h2 i (List.mem_range.1 hi)).bs)
  rw [List.map_map] at this
  exact this
theorem Nb.cap {base : Nat} {w : World} {v : Value} {n : Nat} {G : Nat → Nat} {T : Nat → List Nat} (h : Nb base w v n G T) (h0 : 0 < n) : ∃ b c, v = .slice (some ⟨b, 0, none⟩) n c ∧ n ≤ c := by
  obtain ⟨V, hb, -⟩ := h.ex
  have hr : RowOf w (fun _ => True) 22 1 v n ((List.range n).map V) := ⟨hb, fun _ _ => trivial⟩
  obtain ⟨ao, c4, rfl, h2⟩ := hr.shape
  obtain ⟨g, rfl, _⟩ := h2 h0
  exact ⟨g, c4, rfl, hr.cap.1⟩
/-- As Nb.but, with what it says of its own blocks alone. -/
theorem Nb.but2 {R : Nat → Prop} {base : Nat} {w w' : World} {v : Value} {n : Nat} {G : Nat → Nat} {T : Nat → List Nat} (h : Nb base w v n G T) (k : But R w w') (h1 : ∀ i, i < n → ¬ R (G i)) (h2 : ∀ j, v.ownBlock = some j → ¬ R j) : Nb base w' v n G T := by
  obtain ⟨⟨V, q1, q2⟩, q3, q4, q5⟩ := h
  exact ⟨⟨V, ownsRow_but q1 k h2, fun i hi => (q2 i hi).but k (h1 i hi)⟩, q3, q4, q5⟩
theorem Nb.mono {base base' : Nat} {w : World} {v : Value} {n : Nat} {G : Nat → Nat} {T : Nat → List Nat} (h : Nb base w v n G T) (hb : base' ≤ base) : Nb base' w v n G T :=
  ⟨h.ex, fun k hk => ⟨Nat.le_trans hb (h.rnew k hk).1, (h.rnew k hk).2⟩, fun i hi => Nat.le_trans hb (h.gnew i hi), h.inj⟩
end Go.Proofs.YtmlladpmecclbaaDoor
/- journal: how many blocks a head has; which numbers are no blocks, which bytes no block. -/
namespace Go.Proofs.YtmlladpmecclbaaDoor
open Go.RowKit

set_option maxRecDepth 100000 in
set_option maxHeartbeats 4000000 in
theorem jheads_any (w : World) (b : Nat) (h1 : 1 ≤ b) (h2 : b ≤ 256) : Calls Tryd.prog 46 #[.int .i64 (b : Int)] w fun e w' => e = .returned (.tuple #[.int .i64 (hds b : Nat), .int .i64 0]) ∧ Grow w w' := by
  have hof := planof_any w 1 b (by decide) (by decide) h1 h2
  unfold OfTo at hof
  rw [show ((1 : Nat) : Int) = 1 from rfl] at hof
  obtain ⟨P, hP⟩ : ∃ P, P = plan 1 b := ⟨_, rfl⟩
  have hh : P.heads = (hds b : Nat) := by rw [hP]; rfl
  rw [← hP] at hof
  have HOF := Hid.mk' hof
  have HH := Hid.mk' hh
  obtain ⟨m, hm⟩ : ∃ m, m = hds b := ⟨_, rfl⟩
  rw [← hm] at HH ⊢
  clear hof hP hh hm
  go_enter Tryd.func46, Tryd.ntmps46
  go_wp2_with fail
  refine Calls.mono HOF.out ?_
  rintro e w1 ⟨v, rfl, ho, hg⟩
  obtain ⟨va, vc, hve⟩ := ho.sl
  generalize P.levels.length = ln at hve
  subst hve
  have HG := Hid.mk' hg
  clear hg ho HOF
  go_upto_region 2 with (first
    | (refine wpList_runH rfl (exec_allocF rfl (zPl _)) ?_)
    | (refine wpList_store_at rfl _ _ _ rfl w1.heap.size 0 (pcells P (.slice va ln vc)) rfl (by exact rfl) 25 [] (pcells Pn.zero noS) [] (var_new w1) rfl rfl iPl (pcells_one _ rfl) ?_; intro w2 hb2 hbut2; rw [List.nil_append, List.append_nil] at hb2)
    | fail)
  obtain ⟨g, hgg⟩ : ∃ g, g = w1.heap.size := ⟨_, rfl⟩
  have hg2 := var_grow hbut2
  rw [← hgg] at hb2 ⊢
  have HG2 := Hid.mk' (HG.out.trans hg2)
  have c6 : w2.cell? ⟨g, 6, none⟩ = some (.int .i64 (m : Nat)) := by rw [← HH.out]; exact hb2.cell 6
  clear hgg hb2 hbut2 hg2
  go_wp2
  exact bodyPost_ret (results_tmp2 rfl _ _ _) rfl ⟨rfl, HG2.out⟩
set_option maxRecDepth 100000 in
set_option maxHeartbeats 4000000 in
theorem jheads_no (w : World) (y : Int) (h : ¬ (1 ≤ y ∧ y ≤ 256)) : Calls Tryd.prog 46 #[.int .i64 y] w fun e w' => e = .returned (.tuple #[.int .i64 0, .int .i64 1]) ∧ Grow w w' := by
  have HOF := Hid.mk' (planof_not w 1 y (fun q => h q.2.2))
  clear h
  go_enter Tryd.func46, Tryd.ntmps46
  go_wp2_with fail
  refine Calls.mono HOF.out ?_
  rintro e w1 ⟨rfl, hg⟩
  have HG := Hid.mk' hg
  clear hg HOF
  go_upto_region 2 with (first
    | (refine wpList_runH rfl (exec_allocF rfl (zPl _)) ?_)
    | (refine wpList_store_at rfl _ _ _ rfl w1.heap.size 0 (pcells Pn.zero noS) rfl (by exact rfl) 25 [] (pcells Pn.zero noS) [] (var_new w1) rfl rfl iPl (pcells_one _ rfl) ?_; intro w2 hb2 hbut2; rw [List.nil_append, List.append_nil] at hb2)
    | fail)
  obtain ⟨g, hgg⟩ : ∃ g, g = w1.heap.size := ⟨_, rfl⟩
  have hg2 := var_grow hbut2
  rw [← hgg] at hb2 ⊢
  have HG2 := Hid.mk' (HG.out.trans hg2)
  have c6 : w2.cell? ⟨g, 6, none⟩ = some (.int .i64 0) := hb2.cell 6
  clear hgg hb2 hbut2 hg2
  go_wp2
  exact bodyPost_ret (results_tmp2 rfl _ _ _) rfl ⟨rfl, HG2.out⟩
/-- No device has this block. -/
def bey (x : Int) : Bool := decide (x < 0 ∨ 65535 < x)
set_option maxRecDepth 100000 in
theorem beyond_any (x : Int) (w : World) : Calls Tryd.prog 48 #[.int .i64 x] w fun e w' => e = .returned (.bool (bey x)) ∧ w' = w := by
  unfold bey
  rcases (by omega : x < 0 ∨ (¬ x < 0 ∧ 65536 ≤ x) ∨ (¬ x < 0 ∧ ¬ 65536 ≤ x)) with h | ⟨h, h'⟩ | ⟨h, h'⟩
  · rw [decide_eq_true (.inl h)]
    go_enter Tryd.func48, Tryd.ntmps48
    go_wp2
    go_ret
    exact ⟨rfl, rfl⟩
  · rw [decide_eq_true (.inr (by omega))]
    go_enter Tryd.func48, Tryd.ntmps48
    go_wp2
    go_ret
    exact ⟨rfl, rfl⟩
  · rw [decide_eq_false (by omega)]
    go_enter Tryd.func48, Tryd.ntmps48
    go_wp2
    go_ret
    exact ⟨rfl, rfl⟩
set_option maxRecDepth 100000 in
set_option maxHeartbeats 4000000 in
theorem index_ints {v : Value} {xs : List Int} {w : World} (hv : Nums w v xs) (hl : xs.length ≤ 1000000) :
    Calls Tryd.prog 63 #[v, .func (.func 48) #[] #[]] w fun e w' => ∃ r : Int, e = .returned (.int .i64 r) ∧ decide (0 ≤ r) = xs.any bey ∧ w' = w := by
  obtain ⟨ao, cap, rfl⟩ := hv.len
  obtain ⟨n, hn⟩ : ∃ n, n = xs.length := ⟨_, rfl⟩
  rw [← hn] at hl ⊢
  have HN := Hid.mk' hn
  have HV := Hid.mk' hv
  rw [← hn] at HV
  clear hv hn
  go_enter Tryd.func63, Tryd.ntmps63
  go_wp2
  go_loopw [8] (fun iv wr => ∃ k : Nat, k ≤ n ∧ iv = .int .i64 k ∧ (∀ i, i < k → bey (xs.getD i 0) = false) ∧ wr = w) (fun iv _ => n - (intOf iv).toNat)
  case atStart => exact ⟨0, Nat.zero_le _, rfl, fun i hi => absurd hi (Nat.not_lt_zero _), rfl⟩
  case round =>
    obtain ⟨k, hk, rfl, hall, rfl⟩ := hrel
    have HA := Hid.mk' hall
    clear hall
    by_cases hlt : k < n
    · obtain ⟨b, off, c, hve, -, -, hc⟩ := HV.out.at (by rw [← HN.out]; omega)
      simp only [Value.slice.injEq] at hve
      obtain ⟨rfl, -, rfl⟩ := hve
      obtain ⟨x, hx⟩ : ∃ x, x = xs.getD k 0 := ⟨_, rfl⟩
      have hcc := hc k (by rw [← HN.out]; exact hlt)
      rw [← hx] at hcc
      have HX := Hid.mk' hx
      have HB := Hid.mk' (beyond_any x wr)
      have hlti : (k : Int) < (n : Int) := by omega
      clear hc hx
      go_wp2_with fail
      refine Calls.mono HB.out ?_
      rintro e w1 ⟨rfl, hw1⟩
      subst w1
      cases hq : bey x with
      | true =>
        have hr : xs.any bey = true := by
          rw [List.any_eq_true]
          exact ⟨x, by rw [HX.out]; simp [List.getD, show k < xs.length by rw [← HN.out]; exact hlt], hq⟩
        go_wp2
        go_ret
        exact ⟨(k : Int), rfl, by rw [hr]; exact decide_eq_true (by omega), rfl⟩
      | false =>
        have HQ := Hid.mk' hq
        clear hq
        go_wp2
        refine ⟨⟨k + 1, by omega, by go_num, fun i hi => ?_, trivial⟩, by simp [intOf]; omega⟩
        by_cases hik : i = k
        · rw [hik, ← HX.out]; exact HQ.out
        · exact HA.out i (by omega)
    · have hkn : k = n := by omega
      subst hkn
      have hr : xs.any bey = false := by
        rw [List.any_eq_false]
        intro x hx
        obtain ⟨i, hi, rfl⟩ := List.mem_iff_getElem.1 hx
        have := HA.out i (by rw [HN.out]; exact hi)
        simpa [List.getD, hi] using this
      go_wp2
      go_ret
      exact ⟨-1, rfl, by rw [hr]; rfl, rfl⟩
set_option maxRecDepth 100000 in
theorem has_ints {v : Value} {xs : List Int} {w : World} (hv : Nums w v xs) (hl : xs.length ≤ 1000000) :
    Calls Tryd.prog 47 #[v, .func (.func 48) #[] #[]] w fun e w' => e = .returned (.bool (xs.any bey)) ∧ w' = w := by
  have HI := Hid.mk' (index_ints hv hl)
  obtain ⟨ao, cap, rfl⟩ := hv.len
  generalize xs.length = n at HI ⊢
  generalize xs.any bey = q at HI ⊢
  clear hv hl
  go_enter Tryd.func47, Tryd.ntmps47
  go_wp2_with fail
  refine Calls.mono HI.out ?_
  rintro e w1 ⟨r, rfl, hr, hw⟩
  subst w1
  clear HI
  by_cases h : 0 ≤ r
  · obtain rfl : q = true := by rw [← hr]; exact decide_eq_true h
    clear hr
    go_wp2
    go_ret
    exact ⟨rfl, rfl⟩
  · obtain rfl : q = false := by rw [← hr]; exact decide_eq_false h
    clear hr
    go_wp2
    go_ret
    refine ⟨?_, rfl⟩
    show Ending.returned (Value.bool (decide (0 ≤ r))) = _
    rw [decide_eq_false (by omega : ¬ 0 ≤ r)]
end Go.Proofs.YtmlladpmecclbaaDoor
/- journal: cut: bytes laid into blocks. -/
namespace Go.Proofs.YtmlladpmecclbaaDoor
open Go.RowKit

theorem made_rowJ {z : Value} (hz : z.cells = #[z]) (n : Nat) : madeCells z.cells n = (List.replicate n z).toArray := by
  rw [hz]
  apply Array.ext
  · simp [madeCells]
  · intro i h1 h2
    simp [madeCells, Nat.mod_one]
/-- A row of nil slices is made. -/
theorem make_nils (w : World) (n : Nat) (h : n ≤ 100000) : (Instr.makeSlice 26 (.int .i64 (n : Int)) (.int .i64 (n : Int))).run Tryd.prog w = .ok (.slice (some ⟨w.heap.size, 0, none⟩) n n) (w.alloc (.cells (List.replicate n (Value.slice none 0 0)).toArray 22)) := by
  obtain ⟨i, hi, hz0, hs, hby⟩ := info_parts infRS
  have hnb : 24 * n ≤ 24 * 100000 := Nat.mul_le_mul (Nat.le_refl _) h
  have h1 := run_makeSlice (P := Tryd.prog) (w := w) 26 22 i (.slice none 0 0) Tryd.underlying26 hi hz0 .i64 .i64 (n : Int) (n : Int) (by omega) (Int.le_refl _) (by rw [hs]; omega) (by rw [hby]; omega) (by omega)
  have e1 : (n : Int).toNat * i.size = n := by rw [hs]; omega
  rw [e1, made_rowJ rfl] at h1
  exact h1
theorem exec_mkJ {w w' : World} {o : Oper} {ρ : Operand → Value} {t : TypeId} {x y : Operand} {u v r : Value} (ho : o.op = .makeSlice t x y) (hx : ρ x = u) (hy : ρ y = v) (h : (Instr.makeSlice t u v).run Tryd.prog w = .ok r w') : (execOp ρ o).run Tryd.prog w = .ok (.value r) w' := by
  unfold execOp
  simp only [ho, hx, hy, Sem.run_bind, h, Result.andThen_ok, Sem.run_pure]
theorem take_min (src : List Nat) : src.take (min src.length 256) = src.take 256 := by
  by_cases h : src.length ≤ 256
  · rw [Nat.min_eq_left h, List.take_of_length_le (Nat.le_refl _), List.take_of_length_le h]
  · rw [Nat.min_eq_right (by omega)]
/-- Bytes are copied into a block, as many as there are, or as it has room for. -/
theorem exec_copyJ {w : World} {o : Oper} {ρ : Operand → Value} {d s : Operand} (ho : o.op = .call { callee := .builtin .copy, args := #[d, s], argTypes := #[22, 22] }) {g dCap b so ln cap : Nat} {src ys : List Nat}
    (hd : ρ d = .slice (some ⟨g, 0, none⟩) 256 dCap) (hs : ρ s = .slice (some ⟨b, so, none⟩) ln cap) (hl : ln = src.length) (hc : ∀ i, i < src.length → w.cell? ⟨b, so + i, none⟩ = some (.int .u8 (src.getD i 0 : Nat))) (hg : Blk w g 5 (u8s ys)) (hy : ys.length = 256) :
    ∃ w', (execOp ρ o).run Tryd.prog w = .ok (.value (.int .i64 ((min ln 256 : Nat) : Int))) w' ∧ Blk w' g 5 (u8s (src.take 256 ++ ys.drop (min ln 256))) ∧ But (· = g) w w' := by
  subst hl
  obtain ⟨n, hn⟩ : ∃ n, n = min src.length 256 := ⟨_, rfl⟩
  have h256 : n ≤ 256 := by omega
  have hsp : Blk w g 5 ([] ++ u8s (ys.take n) ++ u8s (ys.drop n)) := by
    rw [List.nil_append, ← u8s_append, List.take_append_drop]; exact hg
  have hr := run_copy_blk (off := 0) (dLen := 256) (dCap := dCap) (sCap := cap) (b := b) (so := so) (n := n) (A := []) o.type hsp rfl (by simp [u8s]; omega) hn hc
  have e : ([] ++ u8s (src.take n) ++ u8s (ys.drop n)) = u8s (src.take 256 ++ ys.drop n) := by
    rw [List.nil_append, ← u8s_append, hn, take_min]
  rw [e] at hr
  rw [← hn]
  refine ⟨w.setRow g (u8s (src.take 256 ++ ys.drop n)).toArray, ?_, setRow_at w g _ _ _ _ hsp, (But.refl (· = g) w).setRow (g := g) (fun _ => rfl) _⟩
  unfold execOp
  simp only [ho, resolve, invoke, builtin, Sem.run_bind, Sem.run_pure, Result.andThen_ok, List.map_toArray, List.map_cons, List.map_nil, hd, hs, hr]
theorem wpList_copyJ {w : World} {ops : Array Oper} {rest : List Oper} {o : Oper} {a : Act} {Q : Exit → Act → World → Prop} (hgd : o.guard = none) {d s : Operand} (ho : o.op = .call { callee := .builtin .copy, args := #[d, s], argTypes := #[22, 22] }) {g dCap b so ln cap : Nat} {src ys : List Nat}
    (hd : a.eval d = .slice (some ⟨g, 0, none⟩) 256 dCap) (hs : a.eval s = .slice (some ⟨b, so, none⟩) ln cap) (hl : ln = src.length) (hc : ∀ i, i < src.length → w.cell? ⟨b, so + i, none⟩ = some (.int .u8 (src.getD i 0 : Nat))) (hg : Blk w g 5 (u8s ys)) (hy : ys.length = 256) {n : Nat} (hn : n = min ln 256)
    (h : ∀ w', Blk w' g 5 (u8s (src.take 256 ++ ys.drop n)) → But (· = g) w w' → wpList Tryd.prog ops Q rest (a.put o.dst (.int .i64 (n : Int))) w') : wpList Tryd.prog ops Q (o :: rest) a w := by
  subst hn
  obtain ⟨w', h1, h2, h3⟩ := exec_copyJ ho hd hs hl hc hg hy
  exact wpList_runH hgd h1 (h w' h2 h3)
/-- Bytes from the n-th on. -/
theorem slice_fromJ {b so m cap n : Nat} (hn : n ≤ m) (hc : m ≤ cap) :
    ∃ so', (∀ w0 : World, (Instr.sliceAt 22 (.slice (some ⟨b, so, none⟩) m cap) (some (.int .i64 (n : Int))) none none).run Tryd.prog w0 = .ok (.slice (some ⟨b, so', none⟩) (m - n) (cap - n)) w0) ∧ (n < m → so' = so + n) := by
  have hu : Tryd.prog.underlying 22 = some (.slice (Tryd.prog.elem 22)) := by kernel_rfl
  have he : Tryd.prog.elem 22 = 5 := by kernel_rfl
  have hs : ∀ w0 : World, (sizeOf 5).run Tryd.prog w0 = .ok 1 w0 := fun w0 => by kernel_rfl
  refine ⟨if cap = n then so else so + n, fun w0 => ?_, fun h => if_neg (by omega)⟩
  rw [run_sliceAt_slice _ _ _ _ _ _ hu, run_slice_l w0 _ _ _ _ hu .i64 (n : Int) (by omega) (by omega), he, hs]
  by_cases hcn : cap = n <;> simp [Result.andThen, sliced, hcn, Addr.add]
/-- A row whose first k blocks are there. -/
def rowJ (G : Nat → Nat) (m k : Nat) : List Value := (List.range m).map fun i => if i < k then .slice (some ⟨G i, 0, none⟩) 256 256 else .slice none 0 0
theorem rowJ_len (G : Nat → Nat) (m k : Nat) : (rowJ G m k).length = m := by simp [rowJ]
theorem rowJ_zero (G : Nat → Nat) (m : Nat) : rowJ G m 0 = List.replicate m (.slice none 0 0) := by
  apply List.ext_getElem (by simp [rowJ])
  intro i h1 h2
  simp [rowJ]
theorem rowJ_get {G : Nat → Nat} {m k i : Nat} (h : i < m) : (rowJ G m k)[i]? = some (if i < k then .slice (some ⟨G i, 0, none⟩) 256 256 else .slice none 0 0) := by
  simp [rowJ, h]
theorem rowJ_next {G : Nat → Nat} {m k g : Nat} : (rowJ G m k).set k (.slice (some ⟨g, 0, none⟩) 256 256) = rowJ (upd G k g) m (k + 1) := by
  apply List.ext_getElem?
  intro i
  rw [List.getElem?_set, rowJ_len]
  by_cases hi : i < m
  · rw [rowJ_get hi, rowJ_get hi]
    by_cases hik : k = i
    · subst hik
      simp [hi, upd_same]
    · rw [if_neg hik, upd_other _ _ (fun e => hik e.symm)]
      by_cases h : i < k
      · rw [if_pos h, if_pos (by omega)]
      · rw [if_neg h, if_neg (by omega)]
  · rw [List.getElem?_eq_none (l := rowJ G m k) (by rw [rowJ_len]; omega), List.getElem?_eq_none (l := rowJ (upd G k g) m (k + 1)) (by rw [rowJ_len]; omega)]
    by_cases hik : k = i
    · rw [if_pos hik, if_neg (by omega)]
    · rw [if_neg hik]
/-- What cut's loop keeps. -/
structure CutI (w wr : World) (gh m : Nat) (b : List Nat) (k : Nat) (G : Nat → Nat) (bb so cap : Nat) : Prop where
  row : Blk wr gh 22 (rowJ G m k)
  el : ∀ i, i < k → Blk wr (G i) 5 (u8s (cutB b i)) ∧ w.heap.size ≤ G i ∧ G i ≠ gh
  inj : ∀ i j, i < k → j < k → G i = G j → i = j
  src : b.length - 256 * k ≤ cap ∧ ∀ i, i < b.length - 256 * k → w.cell? ⟨bb, so + i, none⟩ = some (.int .u8 (b.getD (256 * k + i) 0 : Nat))
  grow : Grow w wr
  lo : w.heap.size ≤ gh
theorem CutI.nb {w wr : World} {gh m : Nat} {b : List Nat} {G : Nat → Nat} {bb so cap : Nat} (h : CutI w wr gh m b m G bb so cap) (hb : ∀ z ∈ b, z < 256) (hm : m ≤ 100000) : Nb w.heap.size wr (.slice (some ⟨gh, 0, none⟩) m m) m G (cutB b) := by
  have e : rowJ G m m = (List.range m).map fun i => .slice (some ⟨G i, 0, none⟩) 256 256 := by
    unfold rowJ
    exact List.map_congr_left (fun i hi => if_pos (List.mem_range.1 hi))
  have hr := h.row
  rw [e] at hr
  refine ⟨⟨fun i => .slice (some ⟨G i, 0, none⟩) 256 256, ⟨by simp, .inr ⟨gh, m, _, rfl, Nat.zero_le _, hr, Nat.le_refl _, by unfold maxLen; omega, by simp, by rw [Nat.mul_one]; exact List.take_of_length_le (by simp)⟩⟩, fun i hi => ?_⟩, fun k hk => ?_, fun i hi => (h.el i hi).2.1, h.inj⟩
  · obtain ⟨q1, -, -⟩ := h.el i hi
    exact ⟨256, [], rfl, Nat.le_refl _, cutB_len _ _, cutB_lt hb _, by rw [List.append_nil]; exact q1⟩
  · have hk' : some gh = some k := hk
    obtain rfl := Option.some.inj hk'
    exact ⟨h.lo, fun i hi => (h.el i hi).2.2⟩
set_option maxRecDepth 100000 in
set_option maxHeartbeats 8000000 in
theorem jcut_any {w : World} {v : Value} {b : List Nat} {m : Nat} (hv : Bs w v b) (h0 : 0 < b.length) (hl : b.length ≤ 100000) (hm : m ≤ 1000) :
    Calls Tryd.prog 49 #[v, .int .i64 (m : Int)] w fun e w' => ∃ v' G, e = .returned v' ∧ Nb w.heap.size w' v' m G (cutB b) ∧ Grow w w' := by
  obtain ⟨hlt, -, ⟨rfl, -⟩ | ⟨-, bb, so, cap, rfl, hcap, hbl, hcell⟩⟩ := hv
  · exact absurd h0 (by simp)
  obtain ⟨i0, hi, hz0, hz1, hz2⟩ := info_parts u8info
  have HLT := Hid.mk' hlt
  obtain ⟨gh, hgh⟩ : ∃ g, g = w.heap.size := ⟨_, rfl⟩
  obtain ⟨W, hW⟩ : ∃ W, W = w.alloc (.cells (List.replicate m (Value.slice none 0 0)).toArray 22) := ⟨_, rfl⟩
  have hmk := make_nils w m (by omega)
  rw [← hgh, ← hW] at hmk
  have H0 : Hid (CutI w W gh m b 0 (fun _ => 0) bb so cap) := by
    refine ⟨?_, fun i hi => absurd hi (Nat.not_lt_zero _), fun i j hi => absurd hi (Nat.not_lt_zero _), ⟨by omega, fun i hi => ?_⟩, by rw [hW]; exact (But.refl _ w).alloc _, by omega⟩
    · rw [rowJ_zero, hW]; exact Blk.new hgh.symm
    · rw [show 256 * 0 + i = i by omega]; exact hcell i (by omega)
  have HMK := Hid.mk' hmk
  obtain ⟨l0, hl0⟩ : ∃ l, l = b.length := ⟨_, rfl⟩
  rw [← hl0] at hl ⊢
  have HL0 := Hid.mk' hl0
  clear hlt hcap hbl hcell hmk hgh hW h0 hl0
  go_enter Tryd.func49, Tryd.ntmps49
  go_upto_region 2 with (first
    | (refine wpList_runH rfl (exec_mkJ rfl rfl rfl HMK.out) ?_)
    | fail)
  go_upto_region 3 with fail
  go_loopw [0, 12] (fun bv iv wr => ∃ (k so' cap' : Nat) (G : Nat → Nat), k ≤ m ∧ bv = .slice (some ⟨bb, so', none⟩) (l0 - 256 * k) cap' ∧ iv = .int .i64 k ∧ CutI w wr gh m b k G bb so' cap') (fun _ iv _ => m - (intOf iv).toNat)
  case atStart => exact ⟨0, so, cap, _, Nat.zero_le _, rfl, rfl, H0.out⟩
  case round =>
    obtain ⟨k, so', cap', G, hk, rfl, rfl, hci⟩ := hrel
    have HCI := Hid.mk' hci
    clear H0
    by_cases hlt : k < m
    · obtain ⟨ln, hln⟩ : ∃ ln, ln = l0 - 256 * k := ⟨_, rfl⟩
      rw [← hln]
      have HLN := Hid.mk' hln
      obtain ⟨src, hsrc⟩ : ∃ src, src = b.drop (256 * k) := ⟨_, rfl⟩
      have hsl : ln = src.length := by rw [hsrc, List.length_drop, ← HL0.out]; exact hln
      have hcp : ln ≤ cap' := by have := hci.src.1; rw [← HL0.out] at this; omega
      have hcs : ∀ i, i < src.length → w.cell? ⟨bb, so' + i, none⟩ = some (.int .u8 (src.getD i 0 : Nat)) := fun i hi => by
        rw [hci.src.2 i (by rw [← HL0.out]; omega), hsrc]
        simp [List.getD]
      have HCS := Hid.mk' hcs
      have HSL := Hid.mk' hsl
      have HSRC := Hid.mk' hsrc
      obtain ⟨nn, hnn⟩ : ∃ nn, nn = min ln 256 := ⟨_, rfl⟩
      obtain ⟨so2, hsc, hso2⟩ := slice_fromJ (b := bb) (so := so') (m := ln) (cap := cap') (n := nn) (by omega) hcp
      have HSC := Hid.mk' hsc
      have HSO := Hid.mk' hso2
      have HNN := Hid.mk' hnn
      have hki : (k : Int) < (m : Int) := by omega
      have HROW := Hid.mk' hci.row
      clear hci hcs hsl hsrc hnn hsc hso2 hln
      go_upto_region 6 with (first
        | (at_make; refine wpList_make_full _ rfl _ _ 22 rfl wr.heap.size 5 i0 (.int .u8 0) 1 Tryd.underlying22 hi hz0 hz1 .i64 .i64 _ _ 256 rfl rfl (by go_num) (by go_num) (by rw [hz2]; omega) (by unfold maxLen; omega) (Nat.le_refl _) ?_; intro w3 hown hgrow; have HT3 : Hid (Grow wr w3) := (But.refl _ _).grown hgrow (by simp); have HO3 := Hid.mk' (own_block hown); have HR3 := Hid.mk' (HROW.out.but HT3.out (fun h => h)))
        | (refine wpList_store1 (g := gh) (i := k) (v := .slice (some ⟨wr.heap.size, 0, none⟩) 256 256) rfl (by kernel_rfl) rfl rfl rfl rfl HR3.out (by rw [rowJ_len]; exact hlt) ?_; intro w4 hb4 hbut4)
        | fail)
      obtain ⟨gb, hgb⟩ : ∃ gb, gb = wr.heap.size := ⟨_, rfl⟩
      rw [← hgb] at hb4
      rw [rowJ_next] at hb4
      rw [← hgb]
      have hhb : gh < gb := by rw [hgb]; exact HROW.out.lt
      have hz3 : Blk w3 gb 5 (u8s (List.replicate 256 0)) := by
        have := HO3.out
        rw [made_zero, ← hgb] at this
        exact this
      have hz4 := hz3.but hbut4 (fun e => by omega)
      have c4 : w4.cell? ⟨gh, k, none⟩ = some (.slice (some ⟨gb, 0, none⟩) 256 256) := by
        rw [hb4.cell, rowJ_get hlt, if_pos (Nat.lt_succ_self k), upd_same]
      have hg4 : Grow w w4 := (HCI.out.grow.trans HT3.out).then hbut4 (fun i hi e => by have := HCI.out.lo; omega)
      have HCS4 : Hid (∀ i, i < src.length → w4.cell? ⟨bb, so' + i, none⟩ = some (.int .u8 (src.getD i 0 : Nat))) := fun i hi => grow_cell hg4 (HCS.out i hi)
      have HB4 := Hid.mk' hb4
      have HZ4 := Hid.mk' hz4
      have HG4 := Hid.mk' hg4
      have HU4 := Hid.mk' hbut4
      have HGB := Hid.mk' hgb
      clear hb4 hz3 hz4 hg4 hbut4 hgb HO3 HR3 HROW
      go_upto_region 7 with (first
        | (refine wpList_copyJ (g := gb) (dCap := 256) (b := bb) (so := so') (ln := ln) (cap := cap') (src := src) (ys := List.replicate 256 0) rfl rfl rfl rfl HSL.out HCS4.out HZ4.out List.length_replicate HNN.out ?_; intro w5 hb5 hbut5)
        | fail)
      clear c4
      go_wp2_with (first
        | (refine wpList_runH rfl (exec_slc rfl rfl rfl rfl (HSC.out w5)) ?_)
        | fail)
      have hcb : src.take 256 ++ (List.replicate 256 0).drop nn = cutB b k := by
        unfold cutB
        rw [← HSRC.out, List.drop_replicate]
        congr 2
        rw [List.length_take, HNN.out, HSL.out]
        omega
      rw [hcb] at hb5
      have hhb2 : ¬ gh = gb := by omega
      refine ⟨⟨k + 1, so2, cap' - nn, upd G k gb, by omega, ?_, by go_num, ?_⟩, by simp [intOf]; omega⟩
      · rw [show l0 - 256 * (k + 1) = ln - nn by have := HLN.out; have := HNN.out; omega]
      · refine ⟨HB4.out.but hbut5 hhb2, fun i hi => ?_, fun i j hi hj e => ?_, ⟨?_, fun i hi => ?_⟩, ?_, HCI.out.lo⟩
        · by_cases hik : i = k
          · subst hik
            rw [upd_same]
            exact ⟨hb5, by have := HCI.out.lo; omega, fun e => hhb2 e.symm⟩
          · rw [upd_other _ _ hik]
            obtain ⟨q1, q2, q3⟩ := HCI.out.el i (by omega)
            have hne : ¬ G i = gb := fun e => by have := q1.lt; have := HGB.out; omega
            exact ⟨((q1.but HT3.out (fun h => h)).but HU4.out q3).but hbut5 hne, q2, q3⟩
        · have hlow : ∀ i, i < k → G i ≠ gb := fun i hi e => by
            have := (HCI.out.el i hi).1.lt
            have := HGB.out
            omega
          by_cases hik : i = k
          · by_cases hjk : j = k
            · omega
            · rw [hik, upd_same, upd_other _ _ hjk] at e
              exact absurd e.symm (hlow j (by omega))
          · by_cases hjk : j = k
            · rw [hjk, upd_same, upd_other _ _ hik] at e
              exact absurd e (hlow i (by omega))
            · rw [upd_other _ _ hik, upd_other _ _ hjk] at e
              exact HCI.out.inj i j (by omega) (by omega) e
        · rw [← HL0.out]; have := HLN.out; have := HNN.out; omega
        · rw [← HL0.out] at hi
          have h1 := HLN.out
          have h2 := HNN.out
          have h3 : nn = 256 := by omega
          have h4 := HSO.out (by omega)
          have := HCI.out.src.2 (256 + i) (by rw [← HL0.out]; omega)
          rw [h4, h3, show so' + 256 + i = so' + (256 + i) by omega, this, show 256 * k + (256 + i) = 256 * (k + 1) + i by omega]
        · exact HG4.out.then hbut5 (fun i hi e => by have := HCI.out.grow.size; have := HGB.out; omega)
    · have hkm : k = m := by omega
      subst hkm
      clear hci
      go_wp2
      go_ret
      exact ⟨_, G, rfl, HCI.out.nb HLT.out (by omega), HCI.out.grow⟩
end Go.Proofs.YtmlladpmecclbaaDoor
/- journal: Head. -/
namespace Go.Proofs.YtmlladpmecclbaaDoor
open Go.RowKit

/-- What is put so far. -/
def hdP (V : Nat) (l : List Nat) (k : Nat) : List Nat := be V 8 ++ be l.length 4 ++ (l.take k).flatMap fun x => be x 4
theorem hdP_zero (V : Nat) (l : List Nat) : hdP V l 0 = be V 8 ++ be l.length 4 := by simp [hdP]
theorem hdP_full (V : Nat) (l : List Nat) : hdP V l l.length = hdB V l := by simp [hdP, hdB]
theorem hdP_next {V : Nat} {l : List Nat} {k : Nat} (h : k < l.length) : hdP V l (k + 1) = hdP V l k ++ be (l.getD k 0) 4 := by
  unfold hdP
  rw [List.take_add_one, List.getElem?_eq_getElem h, List.flatMap_append]
  simp [List.getD, h]
theorem hdP_len {V : Nat} {l : List Nat} {k : Nat} (h : k ≤ l.length) : (hdP V l k).length = 12 + 4 * k := by
  unfold hdP
  rw [List.length_append, List.length_append, be_len, be_len, flat4_len, List.length_take]
  omega
theorem toI_bey {l : List Nat} (h : ∀ x ∈ l, x ≤ 65535) : (toI l).any bey = false := by
  rw [List.any_eq_false]
  intro x hx
  obtain ⟨n, hn, rfl⟩ := List.mem_map.1 hx
  have := h n hn
  unfold bey
  simp
  omega
theorem wrapU (n : Nat) (h : n < 18446744073709551616) : IntKind.u64.wrap (n : Int) = (n : Int) := by show (n : Int) % 18446744073709551616 = _; omega
set_option maxRecDepth 100000 in
set_option maxHeartbeats 8000000 in
theorem jhead_no {w : World} {V : Int} {bv : Value} {xs : List Int} {y : Int} (hv : Nums w bv xs) (hl : xs.length ≤ 1000000) (h : ¬ ((1 ≤ y ∧ y ≤ 256) ∧ (xs.length : Int) ≤ y ∧ xs.any bey = false)) :
    Calls Tryd.prog 32 #[.int .u64 V, bv, .int .i64 y] w fun e w' => e = .returned (.tuple #[.slice none 0 0, .int .i64 1]) ∧ Grow w w' := by
  have HV := Hid.mk' hv
  obtain ⟨ao, cap, rfl⟩ := hv.len
  obtain ⟨n, hn⟩ : ∃ n, n = xs.length := ⟨_, rfl⟩
  rw [← hn] at hl h ⊢
  rw [← hn] at HV
  have HN := Hid.mk' hn
  by_cases hy : 1 ≤ y ∧ y ≤ 256
  · obtain ⟨b, rfl⟩ : ∃ b : Nat, y = (b : Int) := ⟨y.toNat, by omega⟩
    have HH := Hid.mk' (jheads_any w b (by omega) (by omega))
    generalize hds b = m at HH
    by_cases hnb : (n : Int) ≤ (b : Int)
    · have ha : xs.any bey = true := by
        cases e : xs.any bey with
        | true => rfl
        | false => exact absurd ⟨hy, hnb, e⟩ h
      have HC : Hid (∀ w', Grow w w' → Calls Tryd.prog 47 #[.slice ao n cap, .func (.func 48) #[] #[]] w' fun e w'' => e = .returned (.bool true) ∧ w'' = w') := fun w' k => by
        have := has_ints (HV.out.grow k) (by rw [← HN.out]; omega)
        rw [ha] at this
        exact this
      clear hv hn h ha hy
      go_enter Tryd.func32, Tryd.ntmps32
      go_wp2_with fail
      refine Calls.mono HH.out ?_
      rintro e w1 ⟨rfl, hg⟩
      have HG := Hid.mk' hg
      clear hg
      go_wp2_with fail
      refine Calls.mono (HC.out w1 HG.out) ?_
      rintro e w2 ⟨rfl, hw⟩
      subst w2
      go_wp2
      exact bodyPost_ret (results_tmp2 rfl _ _ _) rfl ⟨rfl, HG.out⟩
    · have hgt : (b : Int) < (n : Int) := by omega
      clear hv hn h hnb hy
      go_enter Tryd.func32, Tryd.ntmps32
      go_wp2_with fail
      refine Calls.mono HH.out ?_
      rintro e w1 ⟨rfl, hg⟩
      have HG := Hid.mk' hg
      clear hg
      go_wp2
      exact bodyPost_ret (results_tmp2 rfl _ _ _) rfl ⟨rfl, HG.out⟩
  · have HH := Hid.mk' (jheads_no w y hy)
    clear hv hn h hy
    go_enter Tryd.func32, Tryd.ntmps32
    go_wp2_with fail
    refine Calls.mono HH.out ?_
    rintro e w1 ⟨rfl, hg⟩
    have HG := Hid.mk' hg
    clear hg
    go_wp2
    exact bodyPost_ret (results_tmp2 rfl _ _ _) rfl ⟨rfl, HG.out⟩
set_option maxRecDepth 100000 in
set_option maxHeartbeats 8000000 in
theorem jhead_any {w : World} {V b : Nat} {bv : Value} {l : List Nat} (hV : V < 18446744073709551616) (hv : Nums w bv (toI l)) (h1 : 1 ≤ b) (h2 : b ≤ 256) (hl : l.length ≤ b) (hx : ∀ x ∈ l, x ≤ 65535) :
    Calls Tryd.prog 32 #[.int .u64 (V : Int), bv, .int .i64 (b : Int)] w fun e w' => ∃ v' G, e = .returned (.tuple #[v', .int .i64 0]) ∧ Nb w.heap.size w' v' (hds b) G (cutB (hdB V l)) ∧ Grow w w' := by
  have HV := Hid.mk' hv
  obtain ⟨ao, cap, rfl⟩ := hv.len
  rw [toI_len]
  rw [toI_len] at HV
  obtain ⟨n, hn⟩ : ∃ n, n = l.length := ⟨_, rfl⟩
  rw [← hn] at hl ⊢
  rw [← hn] at HV
  have HN := Hid.mk' hn
  have HH := Hid.mk' (jheads_any w b h1 h2)
  have hm5 := (hds_le h2).2
  obtain ⟨m, hm⟩ : ∃ m, m = hds b := ⟨_, rfl⟩
  rw [← hm] at HH hm5 ⊢
  have HC : Hid (∀ w', Grow w w' → Calls Tryd.prog 47 #[.slice ao n cap, .func (.func 48) #[] #[]] w' fun e w'' => e = .returned (.bool false) ∧ w'' = w') := fun w' k => by
    have := has_ints (HV.out.grow k) (by rw [toI_len, ← HN.out]; omega)
    rw [toI_bey hx] at this
    exact this
  have HP0 : Hid (∀ w', Calls Tryd.prog 44 #[.slice none 0 0, .int .u64 (V : Int), .int .i64 8] w' fun e w'' => ∃ v', e = .returned (.tuple #[v', .int .i64 0]) ∧ Bs w'' v' (be V 8) ∧ Grow w' w'') := fun w' => by
    refine (put_ok (Bs.nil w') (by simp) V 8 (by decide) (by decide) (Nat.div_eq_of_lt (by simpa using hV))).mono ?_
    rintro e w'' ⟨v', rfl, ho, hb⟩
    exact ⟨v', rfl, by have := ho.bs; simpa using this, But.of hb⟩
  have HP4 : Hid (∀ w' v zs (N : Nat), Bs w' v zs → zs.length ≤ 100000 → N ≤ 65535 → Calls Tryd.prog 44 #[v, .int .u64 (N : Int), .int .i64 4] w' fun e w'' => ∃ v', e = .returned (.tuple #[v', .int .i64 0]) ∧ Bs w'' v' (zs ++ be N 4) ∧ Grow w' w'') := fun w' v zs N hb hz hN => by
    refine (put_ok hb (by omega) N 4 (by decide) (by decide) (Nat.div_eq_of_lt (by show N < 256 ^ 4; omega))).mono ?_
    rintro e w'' ⟨v', rfl, ho, hb⟩
    exact ⟨v', rfl, ho.bs, But.of hb⟩
  have HX : Hid (∀ i, i < n → l.getD i 0 ≤ 65535) := fun i hi => hx _ (by simp [List.getD, show i < l.length by omega])
  have hnb : (n : Int) ≤ (b : Int) := by omega
  have hwn : IntKind.u64.wrap (n : Int) = (n : Int) := wrapU n (by omega)
  clear hv hn hm hx hV
  go_enter Tryd.func32, Tryd.ntmps32
  go_wp2_with fail
  refine Calls.mono HH.out ?_
  rintro e w1 ⟨rfl, hg⟩
  have HG := Hid.mk' hg
  clear hg
  go_wp2_with fail
  refine Calls.mono (HC.out w1 HG.out) ?_
  rintro e w2 ⟨rfl, hw⟩
  subst w2
  go_wp2_with fail
  refine Calls.mono (HP0.out w1) ?_
  rintro e w2 ⟨v2, rfl, hb2, hg2⟩
  have HG2 := Hid.mk' (HG.out.trans hg2)
  have HB2 := Hid.mk' hb2
  obtain ⟨a2, n2, c2, rfl⟩ := hb2.sl
  clear hb2 hg2
  go_wp2_with fail
  refine Calls.mono (HP4.out w2 _ _ n HB2.out (by rw [be_len]; decide) (by omega)) ?_
  rintro e w3 ⟨v3, rfl, hb3, hg3⟩
  have HG3 := Hid.mk' (HG2.out.trans hg3)
  have HB3 : Hid (Bs w3 v3 (hdP V l 0)) := by
    show Bs _ _ _
    rw [hdP_zero, ← HN.out]; exact hb3
  obtain ⟨a3, n3, c3, rfl⟩ := hb3.sl
  clear hb3 hg3 HB2 HG2 HC HP0
  go_upto_region 9 with fail
  go_loopw [10, 45] (fun xv iv wr => ∃ (k : Nat) (v : Value), v = xv ∧ k ≤ n ∧ iv = .int .i64 k ∧ Bs wr v (hdP V l k) ∧ Grow w wr) (fun _ iv _ => n - (intOf iv).toNat)
  case atStart => exact ⟨0, _, rfl, Nat.zero_le _, rfl, HB3.out, HG3.out⟩
  case round =>
    obtain ⟨k, v, hvv, hk, rfl, hb, hgr⟩ := hrel
    subst hvv
    have HGR := Hid.mk' hgr
    have HB := Hid.mk' hb
    obtain ⟨a4, n4, c4, rfl⟩ := hb.sl
    clear HB3
    by_cases hlt : k < n
    · obtain ⟨bb, off, c, hve, -, -, hc⟩ := (HV.out.grow hgr).at (by rw [toI_len, ← HN.out]; omega)
      simp only [Value.slice.injEq] at hve
      obtain ⟨rfl, -, rfl⟩ := hve
      obtain ⟨x, hx⟩ : ∃ x, x = l.getD k 0 := ⟨_, rfl⟩
      have hcc := hc k (by rw [toI_len, ← HN.out]; exact hlt)
      have hxi : (toI l).getD k 0 = (x : Int) := by
        rw [hx]
        simp [toI, List.getD, show k < l.length by rw [← HN.out]; exact hlt]
      rw [hxi] at hcc
      have hcc2 : wr.cell? ((⟨bb, off, none⟩ : Addr).add k) = some (.int .i64 (x : Int)) := by rw [addr_add]; exact hcc
      have hx2 : x ≤ 65535 := by rw [hx]; exact HX.out k hlt
      have hwx : IntKind.u64.wrap (x : Int) = (x : Int) := wrapU x (by omega)
      have HXX := Hid.mk' hx
      have hki : (k : Int) < (n : Int) := by omega
      have HPK := Hid.mk' (HP4.out wr _ _ x HB.out (by rw [hdP_len (by rw [← HN.out]; omega)]; omega) hx2)
      clear hc hx hxi hb hgr
      go_wp2_with fail
      refine Calls.mono HPK.out ?_
      rintro e w5 ⟨v5, rfl, hb5, hg5⟩
      obtain ⟨a5, n5, c5, rfl⟩ := hb5.sl
      go_wp2
      refine ⟨⟨k + 1, _, rfl, by omega, by go_num, ?_, HGR.out.trans hg5⟩, by simp [intOf]; omega⟩
      rw [hdP_next (by rw [← HN.out]; exact hlt), ← HXX.out]
      exact hb5
    · have hkn : k = n := by omega
      subst hkn
      have hfull : hdP V l k = hdB V l := by rw [HN.out]; exact hdP_full V l
      rw [hfull] at HB
      have HCT := Hid.mk' (jcut_any (m := m) HB.out (by rw [hdB_len]; omega) (by rw [hdB_len, ← HN.out]; omega) (by omega))
      clear hb hgr
      go_wp2_with fail
      refine Calls.mono HCT.out ?_
      rintro e w6 ⟨v6, G, rfl, hnb6, hg6⟩
      obtain ⟨a6, c6, hve⟩ := hnb6.len
      subst hve
      have HNB := Hid.mk' (hnb6.mono HGR.out.size)
      have HG6 := Hid.mk' (HGR.out.trans hg6)
      clear hnb6 hg6
      go_wp2
      exact bodyPost_ret (results_tmp2 rfl _ _ _) rfl ⟨_, G, rfl, HNB.out, HG6.out⟩
end Go.Proofs.YtmlladpmecclbaaDoor
/- journal's laws: great, awake. -/
namespace Go.Proofs.YtmlladpmecclbaaDoor
open Go.RowKit

/-- What great tells. -/
def GrTo (w : World) (xss : List (List Nat)) (e : Ending) (w' : World) : Prop := ∃ q, e = .returned (.bool q) ∧ (q = false → xss.flatten.length + xss.length ≤ 5000) ∧ w' = w
set_option maxRecDepth 100000 in
set_option maxHeartbeats 4000000 in
theorem jgreat_any {w : World} {v : Value} {xss : List (List Nat)} (hv : Ps w v xss) (hl : xss.length ≤ 140737488351232) :
    Calls Tryd.prog 14 #[v] w (GrTo w xss) := by
  obtain ⟨ao, cap, rfl, hg⟩ := hv.gen
  obtain ⟨n, hn⟩ : ∃ n, n = xss.length := ⟨_, rfl⟩
  rw [← hn] at hl hg ⊢
  have HN := Hid.mk' hn
  have HG := Hid.mk' hg
  clear hv hn hg
  go_enter Tryd.func14, Tryd.ntmps14
  go_upto_region 3 with fail
  go_loopw [3, 4] (fun nv iv wr => ∃ k N : Nat, k ≤ n ∧ iv = .int .i64 k ∧ nv = .int .i64 N ∧ N ≤ 10002 ∧ (N ≤ 5000 → (xss.take k).flatten.length + k = N) ∧ wr = w) (fun _ iv _ => n - (intOf iv).toNat)
  case atStart => exact ⟨0, 0, Nat.zero_le _, rfl, rfl, by omega, fun _ => by simp, rfl⟩
  case round =>
    obtain ⟨k, N, hk, rfl, rfl, hN, hs, rfl⟩ := hrel
    have HS := Hid.mk' hs
    clear hs
    by_cases hlt : k < n
    · by_cases hN5 : N ≤ 5000
      · obtain ⟨b, off, rfl, -, hc⟩ := HG.out (by omega)
        obtain ⟨u, hu, hbs⟩ := hc k hlt
        obtain ⟨x, hx⟩ : ∃ x, x = xss.getD k [] := ⟨_, rfl⟩
        rw [← hx] at hbs
        obtain ⟨xa, xc, rfl, -⟩ := hbs.gen
        have hxm := hbs.2.1
        obtain ⟨xl, hxl⟩ : ∃ xl, xl = x.length := ⟨_, rfl⟩
        rw [← hxl] at hu hxm
        obtain ⟨mn, hmn⟩ : ∃ mn, mn = min xl 5001 := ⟨_, rfl⟩
        have hmin : min (xl : Int) 5001 = (mn : Int) := by omega
        have hm2 : mn ≤ 5001 := by omega
        have hki : (k : Int) < (n : Int) := by omega
        have hNi : (N : Int) ≤ 5000 := by omega
        have HX := Hid.mk' hx
        have HXL := Hid.mk' hxl
        have HMN := Hid.mk' hmn
        clear hc hbs hx hxl hmn
        go_wp2
        refine ⟨⟨k + 1, N + 1 + mn, by omega, by go_num, by go_num, by omega, fun h => ?_, trivial⟩, by simp [intOf]; omega⟩
        rw [flat_next xss k (by rw [← HN.out]; exact hlt), List.length_append, ← HX.out, ← HXL.out]
        have := HS.out hN5
        have := HMN.out
        omega
      · have hNi : ¬ (N : Int) ≤ 5000 := by omega
        have hNj : (5000 : Int) < (N : Int) := by omega
        have hki : (k : Int) < (n : Int) := by omega
        go_wp2
        go_ret
        exact ⟨true, rfl, nofun, rfl⟩
    · have hki : ¬ (k : Int) < (n : Int) := by omega
      by_cases hN5 : N ≤ 5000
      · have hNi : ¬ (5000 : Int) < (N : Int) := by omega
        have hkn : k = n := by omega
        have hfin : xss.flatten.length + n ≤ 5000 := by
          have := HS.out hN5
          rw [hkn, List.take_of_length_le (by rw [HN.out]; exact Nat.le_refl _)] at this
          omega
        have HF := Hid.mk' hfin
        clear hkn hfin
        go_wp2
        go_ret
        exact ⟨false, rfl, fun _ => by rw [← HN.out]; exact HF.out, rfl⟩
      · have hNi : (5000 : Int) < (N : Int) := by omega
        go_wp2
        go_ret
        exact ⟨true, rfl, nofun, rfl⟩
theorem ex_blk : (cutB (hdB 1 [5]) 0).getD 7 0 = 1 ∧ (cutB (hdB 1 [5]) 0).getD 11 0 = 1 ∧ (cutB (hdB 1 [5]) 0).getD 15 0 = 5 := by decide +kernel
theorem hds_4 : hds 4 = 1 := by decide +kernel
set_option maxRecDepth 100000 in
set_option maxHeartbeats 8000000 in
theorem jawake_any (w : World) : Calls Tryd.prog 15 #[] w fun e w' => e = .returned (.bool true) ∧ Grow w w' := by
  have HAL : Hid (Grow w (w.alloc (.cells #[.int .i64 5] 3))) := (But.refl _ w).alloc _
  have HB : Hid (Blk (w.alloc (.cells #[.int .i64 5] 3)) w.heap.size 3 (numv [5])) := Blk.new (L := numv [5]) rfl
  have hnum := nums_lit (ks := [5]) HB.out (by decide) (by decide) (by decide)
  have hhd := jhead_any (V := 1) (b := 4) (l := [5]) (by decide) hnum (by decide) (by decide) (by decide) (by decide)
  rw [hds_4] at hhd
  have HHD := Hid.mk' hhd
  clear hnum hhd HB
  go_enter Tryd.func15, Tryd.ntmps15
  go_wp2_with (first
    | (refine wpList_runH rfl (exec_row1 (v := .int .i64 5) Tryd.underlying23 infNum (by decide) (by decide) rfl rfl rfl) ?_)
    | fail)
  refine Calls.mono HHD.out ?_
  rintro e w1 ⟨v, G, rfl, hnb, hg⟩
  obtain ⟨b, rc, cap, R, hve, hcell, h256, hbk, hl, hz, -, -, -⟩ := hnb.opn (i := 0) (by decide)
  subst hve
  have HG := Hid.mk' (HAL.out.trans hg)
  obtain ⟨e7, e11, e15⟩ := ex_blk
  generalize hZ : cutB (hdB 1 [5]) 0 = Z at hbk hl e7 e11 e15
  have c7 : w1.cell? ⟨G 0, 7, none⟩ = some (.int .u8 1) := by rw [hbk.cell, List.getElem?_append_left (by simp [u8s]; omega), u8s_get _ _ (by omega), e7]; rfl
  have c11 : w1.cell? ⟨G 0, 11, none⟩ = some (.int .u8 1) := by rw [hbk.cell, List.getElem?_append_left (by simp [u8s]; omega), u8s_get _ _ (by omega), e11]; rfl
  have c15 : w1.cell? ⟨G 0, 15, none⟩ = some (.int .u8 5) := by rw [hbk.cell, List.getElem?_append_left (by simp [u8s]; omega), u8s_get _ _ (by omega), e15]; rfl
  obtain ⟨g, hgg⟩ : ∃ g, g = G 0 := ⟨_, rfl⟩
  rw [← hgg] at hcell c7 c11 c15
  clear hnb hg hbk hl hz e7 e11 e15 hZ hgg h256 HHD
  go_wp2
  go_ret
  exact ⟨rfl, HG.out⟩
end Go.Proofs.YtmlladpmecclbaaDoor
/- Plans that Of made: parents and paths, as numbers. -/
namespace Go.Proofs.YtmlladpmecclbaaDoor
open Go.RowKit

/-- Each level has one node for each eight below it begun; the last one has one. -/
def LvC : Int → List Int → Prop
  | m, [] => m = 1
  | m, a :: ls => a = (m + 7) / 8 ∧ LvC a ls
def sm : List Int → Int
  | [] => 0
  | a :: l => a + sm l
theorem LvC.pos : ∀ {ls : List Int} {m : Int}, 1 ≤ m → LvC m ls → (∀ a ∈ ls, 1 ≤ a) ∧ 0 ≤ sm ls
  | [], _, _, _ => ⟨nofun, Int.le_refl 0⟩
  | a :: ls, m, hm, h => by
    obtain ⟨h1, h2⟩ := h
    have ha : 1 ≤ a := by omega
    have h3 := LvC.pos ha h2
    refine ⟨fun b hb => ?_, by unfold sm; omega⟩
    rcases List.mem_cons.1 hb with rfl | hb
    · exact ha
    · exact h3.1 b hb
/-- A plan that Of made. -/
structure Mad (p : Pn) : Prop where
  pg : 1 ≤ p.pages ∧ p.pages ≤ 4096
  ct : p.counters = (p.pages + 15) / 16
  lv : LvC p.counters p.levels
  nd : p.nodes = sm p.levels
  sum : sm p.levels ≤ 37
  hd : p.head = p.pages + p.counters + p.nodes
  len : 1 ≤ p.levels.length ∧ p.levels.length ≤ 3
theorem sm_toI (l : List Nat) : sm (toI l) = (l.sum : Nat) := by
  induction l with
  | nil => rfl
  | cons a l ih =>
    show (a : Int) + sm (toI l) = _
    rw [ih, List.sum_cons]
    omega
theorem plan_mad {n b : Nat} (h1 : 1 ≤ n) (h2 : n ≤ 4096) : Mad (plan n b) := by
  have hc1 : 1 ≤ bg n 16 := by unfold bg; omega
  have hc2 : bg n 16 ≤ 256 := by unfold bg; omega
  have hl := lvs_le hc1 hc2
  refine ⟨?_, ?_, ?_, ?_, ?_, ?_, ?_⟩
  · show 1 ≤ (n : Int) ∧ (n : Int) ≤ 4096
    omega
  · show ((bg n 16 : Nat) : Int) = ((n : Int) + 15) / 16
    unfold bg; omega
  · show LvC ((bg n 16 : Nat) : Int) (toI (lvs (bg n 16)))
    generalize bg n 16 = c at hc1 hc2
    rcases lvs_shape hc1 hc2 with ⟨a, e⟩ | ⟨a, b, e⟩ | ⟨a, e⟩
    · rw [e]
      exact ⟨by show (1 : Int) = _; omega, rfl⟩
    · rw [e]
      refine ⟨?_, ?_, rfl⟩
      · show ((bg c 8 : Nat) : Int) = _; unfold bg; omega
      · show (1 : Int) = (((bg c 8 : Nat) : Int) + 7) / 8; unfold bg; omega
    · rw [e]
      refine ⟨?_, ?_, ?_, rfl⟩
      · show ((bg c 8 : Nat) : Int) = _; unfold bg; omega
      · show ((bg (bg c 8) 8 : Nat) : Int) = (((bg c 8 : Nat) : Int) + 7) / 8; unfold bg; omega
      · show (1 : Int) = (((bg (bg c 8) 8 : Nat) : Int) + 7) / 8; unfold bg; omega
  · show (((lvs (bg n 16)).sum : Nat) : Int) = sm (toI (lvs (bg n 16)))
    rw [sm_toI]
  · show sm (toI (lvs (bg n 16))) ≤ 37
    rw [sm_toI]
    have := hl.2.2.1
    omega
  · show ((n + bg n 16 + (lvs (bg n 16)).sum : Nat) : Int) = (n : Int) + (bg n 16 : Nat) + ((lvs (bg n 16)).sum : Nat)
    omega
  · show 1 ≤ (toI (lvs (bg n 16))).length ∧ (toI (lvs (bg n 16))).length ≤ 3
    rw [toI_len]
    exact ⟨hl.2.1, hl.1⟩
theorem Mad.c1 {p : Pn} (h : Mad p) : 1 ≤ p.counters ∧ p.counters ≤ 256 := by
  have := h.ct
  have := h.pg
  omega
theorem Mad.top {p : Pn} (h : Mad p) : p.top = p.pages + p.counters + sm p.levels - 1 := by
  have := h.pg
  have := h.c1
  have := h.nd
  have h3 := (h.lv.pos h.c1.1).2
  have := h.sum
  unfold Pn.top
  rw [ad_ok (a := p.pages) (b := p.counters) (by omega) (by omega), ad_ok (by omega) (by omega), sb_ok (by omega) (by omega)]
  omega
theorem dv_ok {a b : Int} (h0 : 0 ≤ a) (h1 : a ≤ 9223372036854775807) (hb : 1 ≤ b) : dv a b = a / b := by
  unfold dv
  rw [Int.tdiv_eq_ediv_of_nonneg h0]
  have h2 : 0 ≤ a / b := Int.ediv_nonneg h0 (by omega)
  have h3 : a / b ≤ a := Int.ediv_le_self b h0
  exact wrapI (by omega) (by omega)
/-- A level is passed by. -/
theorem parGo_skip {x t f m a : Int} {ls : List Int} (hf : 0 ≤ f) (hm : 0 ≤ m) (hx : f + m ≤ x) (h2 : x ≤ 9223372036854775807) : parGo x t f m (a :: ls) = parGo x t (f + m) a ls := by
  rw [parGo_cons, sb_ok (by omega) (by omega), if_neg (by omega), ad_ok (by omega) (by omega)]
theorem parGo_in {x t f m a : Int} {ls : List Int} (hf : 0 ≤ f) (hx : f ≤ x) (hm : x < f + m) (h2 : f + m ≤ 1000000) : parGo x t f m (a :: ls) = ⟨f + m + (x - f) / 8, (x - f) % 8, 0⟩ := by
  rw [parGo_cons, sb_ok (by omega) (by omega), if_pos (by omega), dv_ok (by omega) (by omega) (by decide), ad_ok (a := f) (b := m) (by omega) (by omega), ad_ok (by omega) (by omega), Int.tmod_eq_emod_of_nonneg (by omega)]
/-- The blocks that Parent leads to. -/
def chn (p : Pn) : Int → List Int → Prop
  | x, [] => (p.par x).e ≠ 0
  | x, y :: l => (p.par x).e = 0 ∧ (p.par x).block = y ∧ chn p y l
theorem chn_det {p : Pn} : ∀ {l m : List Int} {x : Int}, chn p x l → chn p x m → l = m
  | [], [], _, _, _ => rfl
  | [], y :: m, _, h, k => absurd k.1 h
  | y :: l, [], _, h, k => absurd h.1 k
  | y :: l, z :: m, x, h, k => by
    have e : y = z := h.2.1.symm.trans k.2.1
    subst e
    rw [chn_det h.2.2 k.2.2]
theorem chn_at {p : Pn} : ∀ {A B : List Int} {x y : Int}, chn p x (A ++ y :: B) → chn p y B
  | [], _, _, _, h => h.2.2
  | _ :: A, _, _, _, h => chn_at (A := A) h.2.2
/-- What a path has, from a level on. -/
structure Pth (p : Pn) (f : Int) (l : List Int) (ls : List Int) : Prop where
  ge : ∀ y ∈ l, f ≤ y ∧ y < p.head
  len : l.length = ls.length + 1
  last : l.getLast? = some (p.head - 1)
theorem climb_chn {p : Pn} (h : Mad p) : ∀ (ls : List Int) (a f m : Int), 0 ≤ f → 0 ≤ a → a < m → LvC m ls → f + m + sm ls = p.head → f + m + sm ls ≤ 1000000 →
    (∀ y, f ≤ y → y ≤ 9223372036854775807 → p.par y = parGo y p.top f m ls) → (∀ x, (p.par x).e = 0 → (p.par x).block = f + a → chn p x (climbL a f m ls)) ∧ Pth p f (climbL a f m ls) ls
  | [], a, f, m, hf, ha, ham, hl, hh, hb, hp => by
    have hm : m = 1 := hl
    have ha0 : a = 0 := by omega
    have ht := h.top
    have hd := h.hd
    have hn := h.nd
    unfold sm at hh hb
    have e1 : climbL a f m [] = [f] := by
      show [ad f a] = [f]
      rw [ad_ok (by omega) (by omega), ha0, Int.add_zero]
    rw [e1]
    refine ⟨fun x h1 h2 => ⟨h1, by omega, ?_⟩, ⟨fun y hy => ?_, rfl, ?_⟩⟩
    · show (p.par f).e ≠ 0
      rw [hp f (Int.le_refl _) (by omega), parGo_nil, if_pos (by omega)]
      decide
    · rw [show y = f by simpa using hy]; omega
    · show some f = some (p.head - 1)
      congr 1; omega
  | b :: ls, a, f, m, hf, ha, ham, hl, hh, hb, hp => by
    obtain ⟨h1, h2⟩ := hl
    have h3 := LvC.pos (by omega) h2
    unfold sm at hh hb
    have e1 : climbL a f m (b :: ls) = (f + a) :: climbL (a / 8) (f + m) b ls := by
      show ad f a :: climbL (dv a 8) (ad f m) b ls = _
      rw [ad_ok (by omega) (by omega), ad_ok (by omega) (by omega), dv_ok ha (by omega) (by decide)]
    rw [e1]
    have ih := climb_chn h ls (a / 8) (f + m) b (by omega) (by omega) (by omega) h2 (by omega) (by omega) (fun y hy hy2 => by rw [hp y (by omega) hy2, parGo_skip hf (by omega) hy hy2])
    have hpar : p.par (f + a) = ⟨f + m + (f + a - f) / 8, (f + a - f) % 8, 0⟩ := by
      rw [hp (f + a) (by omega) (by omega), parGo_in hf (by omega) (by omega) (by omega)]
    refine ⟨fun x hx1 hx2 => ⟨hx1, hx2, ih.1 (f + a) (by rw [hpar]) ?_⟩, ⟨fun y hy => ?_, by rw [List.length_cons, ih.2.len, List.length_cons], ?_⟩⟩
    · rw [hpar]
      show f + m + (f + a - f) / 8 = f + m + a / 8
      congr 2; omega
    · rcases List.mem_cons.1 hy with rfl | hy
      · omega
      · have := ih.2.ge y hy
        omega
    · have hl := ih.2.last
      rw [List.getLast?_cons, hl]; rfl
theorem Mad.par_hi {p : Pn} (h : Mad p) : ∀ y, p.pages ≤ y → y ≤ 9223372036854775807 → p.par y = parGo y p.top p.pages p.counters p.levels := fun y hy _ => by
  have := h.pg
  unfold Pn.par
  rw [if_neg (by omega), if_neg (by omega)]
theorem Mad.par_pg {p : Pn} (h : Mad p) {x : Int} (h0 : 0 ≤ x) (h1 : x < p.pages) : p.par x = ⟨p.pages + x / 16, x % 16, 0⟩ := by
  have := h.pg
  unfold Pn.par
  rw [if_neg (by omega), if_pos h1, dv_ok h0 (by omega) (by decide), ad_ok (by omega) (by omega)]
theorem Mad.path {p : Pn} (h : Mad p) {x : Int} (hx : p.has x = true) : chn p x (p.path x) ∧ Pth p p.pages (p.path x) p.levels := by
  have h0 := of_decide_eq_true hx
  have hpg := h.pg
  have hct := h.ct
  have hc := h.c1
  have hs := h.sum
  have hd := h.hd
  have hn := h.nd
  have hpar := h.par_pg h0.1 h0.2
  have key := climb_chn h p.levels (x / 16) p.pages p.counters (by omega) (by omega) (by omega) h.lv (by omega) (by omega) h.par_hi
  unfold Pn.path
  rw [dv_ok h0.1 (by omega) (by decide)]
  exact ⟨key.1 x (by rw [hpar]) (by rw [hpar]), key.2⟩
end Go.Proofs.YtmlladpmecclbaaDoor
/- The reference's Level. -/
namespace Go.Proofs.YtmlladpmecclbaaDoor
open Go.RowKit

def levGo : Int → Int → List Int → Int × Int
  | _, _, [] => (-1, 0)
  | i, a, x :: l => if a < 0 then (-1, 0) else if a < x then (i, a) else levGo (i + 1) (a - x) l
theorem levGo_cons (i a x : Int) (l : List Int) : levGo i a (x :: l) = if a < 0 then (-1, 0) else if a < x then (i, a) else levGo (i + 1) (a - x) l := rfl
def Pn.all (p : Pn) : List Int := p.pages :: p.counters :: p.levels
def Pn.lev (p : Pn) (b : Int) : Int × Int := levGo 0 b p.all
theorem levGo_neg {i a : Int} {l : List Int} (h : a < 0) : levGo i a l = (-1, 0) := by
  cases l with
  | nil => rfl
  | cons x l => rw [levGo_cons, if_pos h]
set_option maxRecDepth 100000 in
set_option maxHeartbeats 2000000 in
theorem rlevel_any (w : World) (p : Pn) (v : Value) (b : Int) (hb : i64 b) (hv : Nums w v p.levels) (hlen : p.levels.length ≤ 1000) (hp : ∀ x ∈ p.all, 0 ≤ x ∧ x ≤ 1000000) : Calls Tryd.prog 57 #[pval p v, .int .i64 b] w fun e w' => e = .returned (.tuple #[.int .i64 (p.lev b).1, .int .i64 (p.lev b).2]) ∧ Grow w w' := by
  obtain ⟨W, gp, hbx⟩ := box_pl w p v
  have HW := Hid.mk' hbx.ew
  have HGP := Hid.mk' hbx.eg
  have HG := Hid.mk' hbx.grow
  have c0 : W.cell? ⟨gp, 0, none⟩ = some (.int .i64 p.pages) := hbx.blk.cell 0
  have c2 : W.cell? ⟨gp, 2, none⟩ = some (.int .i64 p.counters) := hbx.blk.cell 2
  have HBX := Hid.mk' hbx
  have HV := Hid.mk' hv
  have HLN := Hid.mk' hlen
  have HP := Hid.mk' hp
  unfold Pn.lev
  obtain ⟨al, hal⟩ : ∃ al, al = p.all := ⟨_, rfl⟩
  rw [← hal] at HP ⊢
  obtain ⟨q0, r0⟩ : ∃ q, q = p.pages := ⟨_, rfl⟩
  obtain ⟨q2, r2⟩ : ∃ q, q = p.counters := ⟨_, rfl⟩
  rw [← r0] at c0
  rw [← r2] at c2
  have HAL : Hid (al = [q0, q2] ++ p.levels) := Hid.mk' (by rw [hal, r0, r2]; rfl)
  obtain ⟨n, hn⟩ : ∃ n, n = al.length := ⟨_, rfl⟩
  have HN := Hid.mk' hn
  have hnb : n ≤ 1002 := by rw [hn, hal]; unfold Pn.all; simp; omega
  have HNL : Hid (n = 2 + p.levels.length) := Hid.mk' (by rw [hn, hal]; unfold Pn.all; simp; omega)
  have hni : (n : Int) ≤ 1002 := by omega
  unfold pval
  obtain ⟨N, hN⟩ : ∃ N, N = (pcells p v).toArray := ⟨_, rfl⟩
  rw [← hN] at HW ⊢
  have hb1 := hb.1
  have hb2 := hb.2
  obtain ⟨W1, hW1⟩ : ∃ W1, W1 = W.alloc (.cells #[.int .i64 q0, .int .i64 q2] 3) := ⟨_, rfl⟩
  have HG1 : Hid (Grow W W1) := Hid.mk' (by rw [hW1]; exact (But.refl _ W).alloc _)
  have HBL : Hid (Blk W1 W.heap.size 3 (numv [q0, q2])) := Hid.mk' (by rw [hW1]; exact Blk.new (L := numv [q0, q2]) rfl)
  have HW1 := Hid.mk' hW1
  clear hbx hv hlen hp hal r0 r2 hn hN hb hW1 hnb
  go_enter Tryd.func57, Tryd.ntmps57
  go_upto_region 1 with fail
  rw [← HW.out, ← HGP.out]
  clear HW HGP
  go_upto_region 4 with (first
    | (refine wpList_someH rfl (exec_append (v := noS) (n := 0) (xs := []) (news := numv [q0, q2]) Tryd.underlying23 infNum rfl (by decide) rfl rfl (World.ownsRow_nil _ _ _ _) rfl rfl (fun j u hj => by first | exact HBL.out.cells0 j u hj | (rw [HW1.out] at HBL; exact HBL.out.cells0 j u hj)) (fun u hu => by simp only [numv, List.map_cons, List.map_nil, List.mem_cons, List.not_mem_nil, or_false] at hu; rcases hu with rfl | rfl <;> rfl) (by decide) (by decide)) ?_; intro v4 w4 hap)
    | fail)
  have hap' : Appd (W.alloc (.cells #[.int .i64 q0, .int .i64 q2] 3)) w4 3 1 noS v4 2 (numv [q0, q2]) := hap
  rw [← HW1.out] at hap'
  have hg4 : Grow W w4 := HG1.out.then hap'.but (fun _ _ e => by cases e)
  obtain ⟨va, vc, hve⟩ := own_sl hap'.own
  subst hve
  have HR4 := Hid.mk' hap'.own
  have HG4 := Hid.mk' hg4
  have HNB : Hid (∀ k, (Value.slice va 2 vc).ownBlock = some k → W.heap.size ≤ k) := fun k hk => by
    rcases hap'.at' with e | e
    · rw [e] at hk; cases hk
    · rw [e] at hk
      have := Option.some.inj hk
      have := HG1.out.size
      omega
  have c3 : w4.cell? ⟨gp, 3, none⟩ = some v := (HBX.out.blk.but hg4 (fun h => h)).cell 3
  clear hap hap' hg4 HG1 HBL HW1 c0 c2
  obtain ⟨la, lc, hle⟩ := HV.out.len
  have HNV := Hid.mk' ((HV.out.grow HG.out).grow HG4.out)
  generalize hll : p.levels.length = ln at hle
  have HLL := Hid.mk' hll
  subst hle
  clear hll
  go_upto_region 5 with (first
    | (refine wpList_someH rfl (exec_appendN (v := .slice va 2 vc) (u := .slice la ln lc) (n := 2) (xs := numv [q0, q2]) (ks := p.levels) rfl rfl HR4.out rfl HNV.out (by have := HLN.out; omega)) ?_; intro v5 w5 hap)
    | fail)
  have hap' : Appd w4 w5 3 1 (.slice va 2 vc) v5 (2 + p.levels.length) (numv [q0, q2] ++ numv p.levels) := hap
  rw [show numv [q0, q2] ++ numv p.levels = numv al by rw [HAL.out]; simp [numv], ← HNL.out] at hap'
  have HG5 : Hid (Grow w w5) := Hid.mk' ((HG.out.trans HG4.out).then hap'.but (fun b hb e => by have := HNB.out b e; have := HG.out.size; omega))
  obtain ⟨ra, rc, hre⟩ := own_sl hap'.own
  have hrow := hap'.own
  rw [HN.out] at hrow
  have HNR := Hid.mk' (Nums.ofRow hrow (fun x hx => by have := HP.out x hx; omega) (by rw [← HN.out]; omega))
  subst hre
  clear hap hap' hrow HR4 HNB c3 HNV HLL
  go_wp2
  go_loopw [6, 8] (fun av iv wr => ∃ (i : Nat) (a : Int), i ≤ n ∧ iv = .int .i64 i ∧ av = .int .i64 a ∧ (0 ≤ a ∨ i = 0 ∧ a = b) ∧ a ≤ 9223372036854775807 ∧ levGo 0 b al = levGo i a (al.drop i) ∧ wr = w5) (fun _ iv _ => n - (intOf iv).toNat)
  case atStart => exact ⟨0, b, Nat.zero_le _, rfl, rfl, .inr ⟨rfl, rfl⟩, hb2, rfl, rfl⟩
  case round =>
    obtain ⟨i, a, hin, rfl, rfl, ha, ha2, hle, rfl⟩ := hrel
    have HLE := Hid.mk' hle
    have HA := Hid.mk' ha
    clear hle ha
    by_cases hlt : i < n
    · have hlti : (i : Int) < (n : Int) := by omega
      by_cases h0 : a < 0
      · have h0i : ¬ 0 ≤ a := by omega
        have HE : Hid (levGo 0 b al = (-1, 0)) := Hid.mk' (by rw [HLE.out, levGo_neg h0])
        clear h0 hin hlt
        go_wp2
        exact bodyPost_ret (results_tmp2 rfl _ _ _) rfl ⟨by rw [HE.out]; rfl, HG5.out⟩
      · have h0i : 0 ≤ a := by omega
        obtain ⟨bb, o1, k1, e1, -, -, hc1⟩ := HNR.out.at (by have := HN.out; omega)
        rw [← HN.out] at e1
        simp only [Value.slice.injEq] at e1
        obtain ⟨rfl, -, rfl⟩ := e1
        obtain ⟨u, hu⟩ : ∃ u, u = al.getD i 0 := ⟨_, rfl⟩
        have cu := hc1 i (by have := HN.out; omega)
        have h9 : i < al.length := by have := HN.out; omega
        have hdr : al.drop i = u :: al.drop (i + 1) := by
          rw [List.drop_eq_getElem_cons h9, hu, List.getD_eq_getElem?_getD, List.getElem?_eq_getElem h9]; rfl
        have hub : 0 ≤ u ∧ u ≤ 1000000 := HP.out u (by rw [hu, List.getD_eq_getElem?_getD, List.getElem?_eq_getElem h9]; exact List.getElem_mem h9)
        have hu0 := hub.1
        have hu1 := hub.2
        rw [← hu] at cu
        rw [hdr, levGo_cons, if_neg h0] at HLE
        have HLT := Hid.mk' hlt
        clear hc1 hu h9 hdr hub h0 hin hlt
        by_cases hau : a < u
        · rw [if_pos hau] at HLE
          go_wp2
          exact bodyPost_ret (results_tmp2 rfl _ _ _) rfl ⟨by rw [HLE.out]; rfl, HG5.out⟩
        · rw [if_neg hau] at HLE
          go_wp2
          exact ⟨⟨i + 1, a - u, by have := HLT.out; omega, by go_num, rfl, .inl (by omega), by omega, by rw [HLE.out]; rfl, trivial⟩, by simp [intOf]; have := HLT.out; omega⟩
    · have hlti : ¬ (i : Int) < (n : Int) := by omega
      have HE : Hid (levGo 0 b al = (-1, 0)) := Hid.mk' (by rw [HLE.out, List.drop_eq_nil_iff.2 (by have := HN.out; omega)]; rfl)
      clear hin hlt
      go_wp2
      exact bodyPost_ret (results_tmp2 rfl _ _ _) rfl ⟨by rw [HE.out]; rfl, HG5.out⟩
end Go.Proofs.YtmlladpmecclbaaDoor
/- The reference's First. -/
namespace Go.Proofs.YtmlladpmecclbaaDoor
open Go.RowKit

def sumI (l : List Int) : Int := l.foldl (· + ·) 0
theorem sumI_take {l : List Int} {i : Nat} {u : Int} (h : l[i]? = some u) : sumI (l.take (i + 1)) = sumI (l.take i) + u := by
  have h3 := List.getElem?_eq_some_iff.1 h
  unfold sumI
  rw [List.take_succ_eq_append_getElem h3.1, List.foldl_append, h3.2]; rfl
def Pn.first (p : Pn) (lv : Nat) : Int := if lv ≤ 1 then p.pages else p.pages + p.counters + sumI (p.levels.take (lv - 2))
set_option maxRecDepth 100000 in
set_option maxHeartbeats 2000000 in
theorem rfirst_any (w : World) (p : Pn) (v : Value) (lv : Nat) (h1 : 1 ≤ lv) (h2 : lv ≤ p.levels.length + 2) (hv : Nums w v p.levels) (hlen : p.levels.length ≤ 1000) (hp0 : 0 ≤ p.pages ∧ p.pages ≤ 1000000) (hc0 : 0 ≤ p.counters ∧ p.counters ≤ 1000000) (hs : ∀ i, 0 ≤ sumI (p.levels.take i) ∧ sumI (p.levels.take i) ≤ 1000000) : Calls Tryd.prog 58 #[pval p v, .int .i64 (lv : Int)] w fun e w' => e = .returned (.int .i64 (p.first lv)) ∧ Grow w w' := by
  obtain ⟨W, gp, hbx⟩ := box_pl w p v
  have HW := Hid.mk' hbx.ew
  have HGP := Hid.mk' hbx.eg
  have HG := Hid.mk' hbx.grow
  have c0 : W.cell? ⟨gp, 0, none⟩ = some (.int .i64 p.pages) := hbx.blk.cell 0
  have c2 : W.cell? ⟨gp, 2, none⟩ = some (.int .i64 p.counters) := hbx.blk.cell 2
  have c3 : W.cell? ⟨gp, 3, none⟩ = some v := hbx.blk.cell 3
  have HV := Hid.mk' (hv.grow hbx.grow)
  unfold Pn.first
  obtain ⟨q0, r0⟩ : ∃ q, q = p.pages := ⟨_, rfl⟩
  obtain ⟨q2, r2⟩ : ∃ q, q = p.counters := ⟨_, rfl⟩
  obtain ⟨ls, rl⟩ : ∃ q, q = p.levels := ⟨_, rfl⟩
  rw [← r0] at c0 hp0 ⊢
  rw [← r2] at c2 hc0 ⊢
  rw [← rl] at HV hlen hs h2 ⊢
  have hp1 := hp0.1
  have hp2 := hp0.2
  have hc1 := hc0.1
  have hc2 := hc0.2
  have HS := Hid.mk' hs
  obtain ⟨la, lc, hve⟩ := HV.out.len
  obtain ⟨ln, hln⟩ : ∃ n, n = ls.length := ⟨_, rfl⟩
  rw [← hln] at hve h2 hlen
  have HLN := Hid.mk' hln
  have hlvi : (lv : Int) ≤ 1002 := by omega
  have H2 := Hid.mk' h2
  unfold pval
  obtain ⟨N, hN⟩ : ∃ N, N = (pcells p v).toArray := ⟨_, rfl⟩
  rw [← hN] at HW ⊢
  have hl0 : (0 : Int) < (lv : Int) := by omega
  clear hbx hv hlen hs hp0 hc0 r0 r2 rl hln hN h2
  subst hve
  by_cases hl : lv ≤ 1
  · have hl1 : ¬ (1 : Int) < (lv : Int) := by omega
    have hl2 : ¬ (2 : Int) < (lv : Int) := by omega
    rw [if_pos hl]
    clear hl h1
    go_enter Tryd.func58, Tryd.ntmps58
    go_upto_region 1 with fail
    rw [← HW.out, ← HGP.out]
    clear HW HGP
    go_wp2
    go_loopw [5, 6] (fun sv iv wr => sv = .int .i64 q0 ∧ iv = .int .i64 2 ∧ wr = W) (fun _ _ _ => 0)
    case atStart => exact ⟨rfl, rfl, rfl⟩
    case round =>
      obtain ⟨rfl, rfl, rfl⟩ := hrel
      go_wp2
      go_ret
      exact ⟨rfl, HG.out⟩
  · have hl1 : (1 : Int) < (lv : Int) := by omega
    rw [if_neg hl]
    have HL := Hid.mk' hl
    clear hl h1
    go_enter Tryd.func58, Tryd.ntmps58
    go_upto_region 1 with fail
    rw [← HW.out, ← HGP.out]
    clear HW HGP
    go_wp2
    go_loopw [5, 6] (fun sv iv wr => ∃ (i : Nat), i + 2 ≤ lv ∧ sv = .int .i64 (q0 + q2 + sumI (ls.take i)) ∧ iv = .int .i64 ((i : Int) + 2) ∧ wr = W) (fun _ iv _ => lv - (intOf iv).toNat)
    case atStart => exact ⟨0, by have := HL.out; omega, by show _ = Value.int .i64 (q0 + q2 + 0); rw [Int.add_zero], rfl, rfl⟩
    case round =>
      obtain ⟨i, hil, rfl, rfl, rfl⟩ := hrel
      have hsb := HS.out i
      generalize hsm : sumI (ls.take i) = sm at hsb ⊢
      have HSM := Hid.mk' hsm
      have s1 := hsb.1
      have s2 := hsb.2
      by_cases hlt : i + 2 < lv
      · have hlti : (i : Int) + 2 < (lv : Int) := by omega
        obtain ⟨bb, o1, k1, e1, -, -, hc1⟩ := HV.out.at (by have := HLN.out; have := H2.out; omega)
        rw [← HLN.out] at e1
        simp only [Value.slice.injEq] at e1
        obtain ⟨rfl, -, rfl⟩ := e1
        have h9 : i < ls.length := by have := HLN.out; have := H2.out; omega
        obtain ⟨u, hu⟩ : ∃ u, ls[i]? = some u := ⟨_, List.getElem?_eq_getElem h9⟩
        have cu := hc1 i h9
        rw [List.getD_eq_getElem?_getD, hu, Option.getD_some] at cu
        have hst := sumI_take hu
        have hs3 := HS.out (i + 1)
        rw [hst, hsm] at hs3
        rw [hsm] at hst
        have HST := Hid.mk' hst
        have s3 := hs3.1
        have s4 := hs3.2
        have hix : (i : Int) + 2 - 2 = (i : Int) := by omega
        have hil2 : (i : Int) < (ln : Int) := by have := HLN.out; omega
        clear hc1 hu hst hs3 h9 hsm hsb hil hlt
        go_wp2
        exact ⟨⟨i + 1, by omega, by rw [HST.out]; congr 1; omega, by first | rfl | (congr 1; omega), trivial⟩, by simp [intOf]; omega⟩
      · have hlti : ¬ (i : Int) + 2 < (lv : Int) := by omega
        have HIE : Hid (lv - 2 = i) := Hid.mk' (by omega)
        clear hsm hsb hil hlt
        go_wp2
        go_ret
        exact ⟨by rw [HIE.out, HSM.out]; rfl, HG.out⟩
end Go.Proofs.YtmlladpmecclbaaDoor
/- The reference's Parent. -/
namespace Go.Proofs.YtmlladpmecclbaaDoor
open Go.RowKit

def Pn.rpar (p : Pn) (b : Int) : Pc :=
  if (p.lev b).1 < 0 then ⟨0, 0, 1⟩ else if (p.lev b).1 = (p.levels.length : Int) + 1 then ⟨0, 0, 5⟩
  else if (p.lev b).1 = 0 then ⟨p.first 1 + (p.lev b).2 / 16, (p.lev b).2 % 16, 0⟩ else ⟨p.first ((p.lev b).1 + 1).toNat + (p.lev b).2 / 8, (p.lev b).2 % 8, 0⟩
theorem levGo_in : ∀ (l : List Int) (i a : Int), 0 ≤ i → (∀ x ∈ l, x ≤ 1000000) → (levGo i a l).1 = -1 ∨ (i ≤ (levGo i a l).1 ∧ (levGo i a l).1 < i + l.length ∧ 0 ≤ (levGo i a l).2 ∧ (levGo i a l).2 ≤ 1000000)
  | [], i, a, _, _ => .inl rfl
  | x :: l, i, a, hi, hx => by
    rw [levGo_cons]
    split
    · exact .inl rfl
    · split
      · right
        have := hx x List.mem_cons_self
        refine ⟨by simp, by simp; omega, by simp; omega, by simp; omega⟩
      · rcases levGo_in l (i + 1) (a - x) (by omega) (fun y hy => hx y (List.mem_cons_of_mem _ hy)) with h | ⟨h1, h2, h3⟩
        · exact .inl h
        · exact .inr ⟨by omega, by rw [List.length_cons]; omega, h3⟩
/-- What the reference asks of a plan. -/
structure Pn.good (p : Pn) : Prop where
  len : p.levels.length ≤ 1000
  all : ∀ x ∈ p.all, 0 ≤ x ∧ x ≤ 1000000
  sum : ∀ i, 0 ≤ sumI (p.levels.take i) ∧ sumI (p.levels.take i) ≤ 1000000
theorem Pn.good.pg {p : Pn} (h : p.good) : 0 ≤ p.pages ∧ p.pages ≤ 1000000 := h.all _ List.mem_cons_self
theorem Pn.good.ct {p : Pn} (h : p.good) : 0 ≤ p.counters ∧ p.counters ≤ 1000000 := h.all _ (List.mem_cons_of_mem _ List.mem_cons_self)
theorem Pn.good.fst {p : Pn} (h : p.good) (k : Nat) : 0 ≤ p.first k ∧ p.first k ≤ 3000000 := by
  have h1 := h.pg
  have h2 := h.ct
  have h3 := h.sum (k - 2)
  unfold Pn.first
  split <;> omega
set_option maxRecDepth 100000 in
set_option maxHeartbeats 2000000 in
theorem rparent_any (w : World) (p : Pn) (v : Value) (b : Int) (hb : i64 b) (hv : Nums w v p.levels) (hg : p.good) : Calls Tryd.prog 38 #[pval p v, .int .i64 b] w fun e w' => e = .returned (p.rpar b).ret ∧ Grow w w' := by
  obtain ⟨W0, W1, g0, g1, hW0, hg0, hW1, hg1, hM⟩ := par_begin w p v
  have HW0 := Hid.mk' hW0
  have HG0 := Hid.mk' hg0
  have HW1 := Hid.mk' hW1
  have HG1 := Hid.mk' hg1
  have HM := Hid.mk' hM
  have HL1 := Hid.mk' hM.box.pl
  have HV := Hid.mk' (hv.grow hM.grow)
  have HGD := Hid.mk' hg
  have HLV := Hid.mk' (rlevel_any W1 p v b hb (hv.grow hM.grow) hg.len hg.all)
  have HIN := Hid.mk' (levGo_in p.all 0 b (by decide) (fun x hx => (hg.all x hx).2))
  have hall : (p.all.length : Int) = (p.levels.length : Int) + 2 := by unfold Pn.all; simp; omega
  have HALL := Hid.mk' hall
  unfold Pn.rpar
  have hlv : p.lev b = levGo 0 b p.all := rfl
  rw [← hlv] at HIN
  obtain ⟨⟨L, I⟩, hLI⟩ : ∃ q, q = p.lev b := ⟨_, rfl⟩
  rw [← hLI] at HLV HIN ⊢
  dsimp only at HLV HIN ⊢
  obtain ⟨la, lc, hve⟩ := hv.len
  obtain ⟨ln, hln⟩ : ∃ n, n = p.levels.length := ⟨_, rfl⟩
  rw [← hln] at hve HALL ⊢
  obtain ⟨R, hR⟩ : ∃ R : Pc, R = (if L < 0 then (⟨0, 0, 1⟩ : Pc) else if L = (ln : Int) + 1 then ⟨0, 0, 5⟩ else if L = 0 then ⟨p.first 1 + I / 16, I % 16, 0⟩ else ⟨p.first (L + 1).toNat + I / 8, I % 8, 0⟩) := ⟨_, rfl⟩
  rw [← hR]
  have HR := Hid.mk' hR
  clear hR
  have HLN := Hid.mk' hln
  have hlni : (ln : Int) ≤ 1000 := by have := hg.len; omega
  have c3 : ∀ wz, Grow W1 wz → wz.cell? ⟨g0, 3, none⟩ = some v := fun wz k => (hM.box.but k (fun h => h)).cell 3
  have HC3 := Hid.mk' c3
  unfold pval
  obtain ⟨N, hN⟩ : ∃ N, N = (pcells p v).toArray := ⟨_, rfl⟩
  rw [← hN] at HW0 ⊢
  clear hW0 hg0 hW1 hg1 hM hv hg hall hlv hLI hln c3 hN hb
  subst hve
  go_enter Tryd.func38, Tryd.ntmps38
  go_upto_region 1 with (first
    | (refine wpList_runH rfl (exec_allocF rfl (zPc _)) ?_; rw [← HW0.out, ← HG0.out, ← HW1.out, ← HG1.out])
    | fail)
  clear HW0 HG0 HW1 HG1
  go_wp2_with (first
    | (refine wpList_load_cells rfl _ _ rfl ⟨g0, 0, none⟩ rfl (pcells p (.slice la ln lc)) _ HL1.out Tryd.underlying25 rfl iPl ?_)
    | fail)
  refine Calls.mono HLV.out ?_
  rintro e w2 ⟨rfl, hg2⟩
  have HG2 := Hid.mk' hg2
  have c3 := HC3.out w2 hg2
  have HA2 := Hid.mk' (HM.out.ans.but hg2 (fun h => h))
  have HL2 := Hid.mk' (HM.out.box.but hg2 (fun h => h)).pl
  clear hg2 HLV HL1
  by_cases h1 : L < 0
  · have HE : Hid (R = ⟨0, 0, 1⟩) := Hid.mk' (by rw [HR.out, if_pos h1])
    go_wp2_with (first
      | (refine wpList_store_at rfl _ _ _ rfl g1 0 (plc 0 0) rfl rfl 78 [] (plc 0 0) [] (by simpa using HA2.out) rfl rfl iPc (plc_one _ _) ?_; intro w9 hb9 hbut9; rw [List.nil_append, List.append_nil] at hb9)
      | fail)
    exact bodyPost_ret (results_plan_tmp rfl _ _ g1 _ _ _ _ rfl hb9 Tryd.underlying78 rfl iPc rfl) rfl ⟨by rw [HE.out]; rfl, HM.out.fin HG2.out hbut9⟩
  · have hin := HIN.out
    have hall := HALL.out
    by_cases h2 : L = (ln : Int) + 1
    · have HE : Hid (R = ⟨0, 0, 5⟩) := Hid.mk' (by rw [HR.out, if_neg h1, if_pos h2])
      have hb2 : (L == (ln : Int) + 1) = true := by simpa using h2
      clear hin hall h2
      go_wp2_with (first
        | (refine wpList_store_at rfl _ _ _ rfl g1 0 (plc 0 0) rfl rfl 78 [] (plc 0 0) [] (by simpa using HA2.out) rfl rfl iPc (plc_one _ _) ?_; intro w9 hb9 hbut9; rw [List.nil_append, List.append_nil] at hb9)
        | fail)
      exact bodyPost_ret (results_plan_tmp rfl _ _ g1 _ _ _ _ rfl hb9 Tryd.underlying78 rfl iPc rfl) rfl ⟨by rw [HE.out]; rfl, HM.out.fin HG2.out hbut9⟩
    · have hb2 : (L == (ln : Int) + 1) = false := by simpa using h2
      have hI0 : 0 ≤ I := by omega
      have hI1 : I ≤ 1000000 := by omega
      by_cases h3 : L = 0
      · have HE : Hid (R = ⟨p.first 1 + I / 16, I % 16, 0⟩) := Hid.mk' (by rw [HR.out, if_neg h1, if_neg h2, if_pos h3])
        have hb3 : (L == 0) = true := by simpa using h3
        have hF := HGD.out.fst 1
        have HFR := Hid.mk' (rfirst_any w2 p (.slice la ln lc) 1 (by decide) (by omega) (HV.out.grow HG2.out) HGD.out.len HGD.out.pg HGD.out.ct HGD.out.sum)
        generalize p.first 1 = f1 at HE hF HFR
        have f10 := hF.1
        have f11 := hF.2
        have hq : I.tdiv 16 = I / 16 := Int.tdiv_eq_ediv_of_nonneg hI0
        obtain ⟨q, hqe⟩ : ∃ q, q = I / 16 := ⟨_, rfl⟩
        rw [← hqe] at hq HE
        have q0 : 0 ≤ q := by omega
        have q1 : q ≤ 1000000 := by omega
        clear hin hall h2 h3 hF hqe
        go_wp2_with (first
          | (refine wpList_load_cells rfl _ _ rfl ⟨g0, 0, none⟩ rfl (pcells p (.slice la ln lc)) _ HL2.out Tryd.underlying25 rfl iPl ?_)
          | fail)
        refine Calls.mono HFR.out ?_
        rintro e w3 ⟨rfl, hg3⟩
        have HG3 := Hid.mk' (HG2.out.trans hg3)
        have HA3 := Hid.mk' (HA2.out.but hg3 (fun h => h))
        clear hg3 HFR
        go_wp2_with (first
          | (refine wpList_store_at rfl _ _ _ rfl g1 0 (plc (f1 + q) (I % 16)) rfl rfl 78 [] (plc 0 0) [] (by simpa using HA3.out) rfl rfl iPc (plc_one _ _) ?_; intro w9 hb9 hbut9; rw [List.nil_append, List.append_nil] at hb9)
          | fail)
        exact bodyPost_ret (results_plan_tmp rfl _ _ g1 _ _ _ _ rfl hb9 Tryd.underlying78 rfl iPc rfl) rfl ⟨by rw [HE.out]; rfl, HM.out.fin HG3.out hbut9⟩
      · have hb3 : (L == 0) = false := by simpa using h3
        obtain ⟨k, hk⟩ : ∃ k : Nat, (k : Int) = L + 1 := ⟨(L + 1).toNat, by omega⟩
        have HE : Hid (R = ⟨p.first k + I / 8, I % 8, 0⟩) := Hid.mk' (by rw [HR.out, if_neg h1, if_neg h2, if_neg h3, show (L + 1).toNat = k by omega])
        have hF := HGD.out.fst k
        have HFR := Hid.mk' (rfirst_any w2 p (.slice la ln lc) k (by omega) (by have := HLN.out; omega) (HV.out.grow HG2.out) HGD.out.len HGD.out.pg HGD.out.ct HGD.out.sum)
        rw [hk] at HFR
        generalize p.first k = f1 at HE hF HFR
        have f10 := hF.1
        have f11 := hF.2
        have hq : I.tdiv 8 = I / 8 := Int.tdiv_eq_ediv_of_nonneg hI0
        obtain ⟨q, hqe⟩ : ∃ q, q = I / 8 := ⟨_, rfl⟩
        rw [← hqe] at hq HE
        have q0 : 0 ≤ q := by omega
        have q1 : q ≤ 1000000 := by omega
        have hL1 : L ≤ 1002 := by omega
        clear hin hall h2 h3 hF hqe hk
        go_wp2_with (first
          | (refine wpList_load_cells rfl _ _ rfl ⟨g0, 0, none⟩ rfl (pcells p (.slice la ln lc)) _ HL2.out Tryd.underlying25 rfl iPl ?_)
          | fail)
        refine Calls.mono HFR.out ?_
        rintro e w3 ⟨rfl, hg3⟩
        have HG3 := Hid.mk' (HG2.out.trans hg3)
        have HA3 := Hid.mk' (HA2.out.but hg3 (fun h => h))
        clear hg3 HFR
        go_wp2_with (first
          | (refine wpList_store_at rfl _ _ _ rfl g1 0 (plc (f1 + q) (I % 8)) rfl rfl 78 [] (plc 0 0) [] (by simpa using HA3.out) rfl rfl iPc (plc_one _ _) ?_; intro w9 hb9 hbut9; rw [List.nil_append, List.append_nil] at hb9)
          | fail)
        exact bodyPost_ret (results_plan_tmp rfl _ _ g1 _ _ _ _ rfl hb9 Tryd.underlying78 rfl iPc rfl) rfl ⟨by rw [HE.out]; rfl, HM.out.fin HG3.out hbut9⟩
end Go.Proofs.YtmlladpmecclbaaDoor
/- The reference's Parent and the program's agree, of plans that Of made. -/
namespace Go.Proofs.YtmlladpmecclbaaDoor
open Go.RowKit

theorem foldl_sm : ∀ (l : List Int) (a : Int), l.foldl (· + ·) a = a + sm l
  | [], a => by show a = a + 0; omega
  | x :: l, a => by
    rw [List.foldl_cons, foldl_sm l (a + x)]
    show a + x + sm l = a + (x + sm l)
    omega
theorem sumI_sm (l : List Int) : sumI l = sm l := by
  unfold sumI
  rw [foldl_sm, Int.zero_add]
theorem sm_take : ∀ {l : List Int}, (∀ a ∈ l, 1 ≤ a) → ∀ i, 0 ≤ sm (l.take i) ∧ sm (l.take i) ≤ sm l
  | [], _, i => by rw [List.take_nil]; exact ⟨Int.le_refl _, Int.le_refl _⟩
  | x :: l, h, 0 => by
    have hs := (sm_take (fun a ha => h a (List.mem_cons_of_mem _ ha)) 0 : 0 ≤ sm (l.take 0) ∧ sm (l.take 0) ≤ sm l)
    have := h x List.mem_cons_self
    refine ⟨Int.le_refl _, ?_⟩
    show 0 ≤ x + sm l
    omega
  | x :: l, h, i + 1 => by
    have hs := sm_take (fun a ha => h a (List.mem_cons_of_mem _ ha)) i
    have := h x List.mem_cons_self
    rw [List.take_succ_cons]
    refine ⟨?_, ?_⟩
    · show 0 ≤ x + sm (l.take i); omega
    · show x + sm (l.take i) ≤ x + sm l; omega
theorem sm_mem : ∀ {l : List Int}, (∀ a ∈ l, 1 ≤ a) → ∀ a ∈ l, a ≤ sm l
  | x :: l, h, a, ha => by
    have hl : ∀ a ∈ l, 1 ≤ a := fun a ha => h a (List.mem_cons_of_mem _ ha)
    have h0 := (sm_take hl 0)
    have hp := h x List.mem_cons_self
    have h00 : 0 ≤ sm l := Int.le_trans h0.1 h0.2
    show a ≤ x + sm l
    rcases List.mem_cons.1 ha with rfl | ha
    · omega
    · have := sm_mem hl a ha
      omega
theorem Mad.good {p : Pn} (h : Mad p) : p.good := by
  have hl := (h.lv.pos h.c1.1).1
  have hs := h.sum
  refine ⟨by have := h.len; omega, fun x hx => ?_, fun i => ?_⟩
  · unfold Pn.all at hx
    rcases List.mem_cons.1 hx with rfl | hx
    · have := h.pg; omega
    · rcases List.mem_cons.1 hx with rfl | hx
      · have := h.c1; omega
      · have := hl x hx
        have := sm_mem hl x hx
        omega
  · rw [sumI_sm]
    have := sm_take hl i
    omega
/-- The reference's answer out of a level's number. -/
def out (p : Pn) (q : Int × Int) : Pc := if q.1 < 0 then ⟨0, 0, 1⟩ else if q.1 = (p.levels.length : Int) + 1 then ⟨0, 0, 5⟩ else ⟨p.first (q.1 + 1).toNat + q.2 / 8, q.2 % 8, 0⟩
theorem go_eq {p : Pn} {x t : Int} (hx : x ≤ 9223372036854775807) : ∀ (ls : List Int) (i : Nat) (f m : Int), 0 ≤ f → f ≤ x → 1 ≤ m → LvC m ls → f + m + sm ls ≤ 1000000 → t = f + m + sm ls - 1 → i + ls.length = p.levels.length + 1 → 1 ≤ i →
    (∀ j, j < ls.length → p.first (i + 1 + j) = f + m + sm (ls.take j)) → parGo x t f m ls = out p (levGo i (x - f) (m :: ls))
  | [], i, f, m, hf, hfx, hm, hl, hs, ht, hi, hi1, hfr => by
    have hm1 : m = 1 := hl
    unfold sm at hs ht
    by_cases he : x = t
    · rw [parGo_nil, if_pos he, levGo_cons, if_neg (by omega), if_pos (by omega)]
      unfold out
      dsimp only
      rw [if_neg (by omega), if_pos (by simp at hi; omega)]
    · rw [parGo_nil, if_neg he, levGo_cons, if_neg (by omega), if_neg (by omega)]
      rfl
  | a :: ls, i, f, m, hf, hfx, hm, hl, hs, ht, hi, hi1, hfr => by
    obtain ⟨h1, h2⟩ := hl
    have h3 := LvC.pos (by omega) h2
    unfold sm at hs ht
    rw [levGo_cons, if_neg (by omega)]
    rw [List.length_cons] at hi
    by_cases hin : x - f < m
    · rw [if_pos hin, parGo_in hf hfx (by omega) (by omega)]
      unfold out
      dsimp only
      rw [if_neg (by omega), if_neg (by omega)]
      have h5 := hfr 0 (by simp)
      rw [show ((i : Int) + 1).toNat = i + 1 + 0 by omega, h5]
      show _ = (⟨f + m + 0 + (x - f) / 8, (x - f) % 8, 0⟩ : Pc)
      rw [Int.add_zero]
    · rw [if_neg hin, parGo_skip hf (by omega) (by omega) hx]
      have h6 := go_eq (p := p) (t := t) hx ls (i + 1) (f + m) a (by omega) (by omega) (by omega) h2 (by omega) (by omega) (by omega) (by omega) (fun j hj => by
        have h7 := hfr (j + 1) (by rw [List.length_cons]; omega)
        rw [List.take_succ_cons] at h7
        unfold sm at h7
        rw [show i + 1 + 1 + j = i + 1 + (j + 1) by omega, h7]
        omega)
      rw [h6, show x - (f + m) = x - f - m by omega]
      rfl
theorem Mad.rpar {p : Pn} (h : Mad p) {x : Int} (hx : i64 x) : p.rpar x = p.par x := by
  have hpg := h.pg
  have hc := h.c1
  have hs := h.sum
  have ht := h.top
  unfold Pn.rpar Pn.lev Pn.all
  by_cases h0 : x < 0
  · rw [levGo_neg h0]
    unfold Pn.par
    rw [if_pos h0]
    rfl
  · by_cases h1 : x < p.pages
    · rw [h.par_pg (by omega) h1, levGo_cons, if_neg h0, if_pos h1]
      dsimp only
      rw [if_neg (by decide), if_neg (by omega), if_pos rfl]
      rfl
    · rw [h.par_hi x (by omega) hx.2, levGo_cons, if_neg h0, if_neg h1]
      rw [go_eq (p := p) hx.2 p.levels 1 p.pages p.counters (by omega) (by omega) hc.1 h.lv (by omega) ht (by omega) (by decide) (fun j hj => by
        unfold Pn.first
        rw [if_neg (by omega), show 1 + 1 + j - 2 = j by omega, sumI_sm])]
      have hin := levGo_in (p.counters :: p.levels) (0 + 1) (x - p.pages) (by decide) (fun y hy => by
        have := h.good.all y (List.mem_cons_of_mem _ hy)
        omega)
      show _ = out p (levGo (0 + 1) (x - p.pages) (p.counters :: p.levels))
      generalize levGo (0 + 1) (x - p.pages) (p.counters :: p.levels) = q at hin ⊢
      have hin2 : q.1 = -1 ∨ 1 ≤ q.1 := by
        rcases hin with h | h
        · exact .inl h
        · exact .inr h.1
      unfold out
      by_cases e1 : q.1 < 0
      · rw [if_pos e1, if_pos e1]
      · rw [if_neg e1, if_neg e1]
        split
        · rfl
        · rw [if_neg (by omega)]
end Go.Proofs.YtmlladpmecclbaaDoor
/- Two places held against each other; of an array of two the one or the other. -/
namespace Go.Proofs.YtmlladpmecclbaaDoor
open Go.RowKit

theorem eqf_consP {d : Nat} {xs ys : Array Value} {f : Field} {fs : List Field} {u v : Value} {b r : Bool} {w : World} (hn : f.name ≠ "_") (hx : (part f.type xs f.offset).run Tryd.prog w = .ok u w) (hy : (part f.type ys f.offset).run Tryd.prog w = .ok v w)
    (he : (Op.equalIn d f.type u v).run Tryd.prog w = .ok b w) (hr : (Op.eqFields d xs ys fs).run Tryd.prog w = .ok r w) : (Op.eqFields d xs ys (f :: fs)).run Tryd.prog w = .ok (b && r) w := by
  unfold Op.eqFields
  rw [if_pos hn]
  simp only [Sem.run_bind, hx, hy, he, Result.andThen_ok, Sem.run_ite, Sem.run_pure]
  cases b
  · rfl
  · simpa using hr
theorem part_oneP {t : TypeId} {cs : Array Value} {o : Nat} {v : Value} {w : World} (h : (isAgg t).run Tryd.prog w = .ok false w) (hc : cs[o]? = some v) : (part t cs o).run Tryd.prog w = .ok v w := by
  unfold part
  rw [Sem.run_bind, h, Result.andThen_ok, hc]
  rfl
theorem exec_binP {w : World} {o : Oper} {ρ : Operand → Value} {op : BinOp} {t t' : TypeId} {x y : Operand} {u v r : Value} (ho : o.op = .binOp op t x y t') (hx : ρ x = u) (hy : ρ y = v) (hg : (eqGuard op t x y u v).run Tryd.prog w = .ok () w) (hr : (binOp op t u v).run Tryd.prog w = .ok r w) : (execOp ρ o).run Tryd.prog w = .ok (.value r) w := by
  unfold execOp
  simp only [ho, hx, hy, Sem.run_bind, hg, hr, Result.andThen_ok, Sem.run_pure]
theorem exec_neP {w : World} {o : Oper} {ρ : Operand → Value} {t t' : TypeId} {x y : Operand} {N M : Array Value} {b : Bool} (ho : o.op = .binOp .neq t x y t') (hx : ρ x = .agg N) (hy : ρ y = .agg M) (hT : Tryd.prog.eqGuardType Tryd.prog.depth t = false) (h : (Op.equalIn 10000 t (.agg N) (.agg M)).run Tryd.prog w = .ok b w) : (execOp ρ o).run Tryd.prog w = .ok (.value (.bool (!b))) w :=
  exec_binP ho hx hy (run_eqGuard_agg (P := Tryd.prog) (w := w) .neq t x y N M hT) (by rw [run_neq_struct, h]; rfl)
theorem equalPc (a b : Int) (w : World) : (Op.equalIn 10000 78 (.agg (plc a b).toArray) (.agg (plc a b).toArray)).run Tryd.prog w = .ok true w := by
  rw [run_equalIn_struct w 9999 78 _ _ (by kernel_rfl) (by kernel_rfl)]
  have i3 : (isAgg 3).run Tryd.prog w = .ok false w := by kernel_rfl
  have hf : (Tryd.prog.fieldsOf 78).toList = [⟨ "Block", 3, 0, false, "", "", 0⟩, ⟨ "At", 3, 1, false, "", "", 8⟩] := by kernel_rfl
  rw [hf]
  have hi : ∀ x : Int, (Op.equalIn 9999 3 (.int .i64 x) (.int .i64 x)).run Tryd.prog w = .ok true w := fun x => by
    unfold Op.equalIn
    simp
  exact eqf_consP (b := true) (r := true) (by decide) (part_oneP i3 rfl) (part_oneP i3 rfl) (hi a) (eqf_consP (b := true) (r := true) (by decide) (part_oneP i3 rfl) (part_oneP i3 rfl) (hi b) rfl)
theorem exec_idx {w : World} {o : Oper} {ρ : Operand → Value} {t : TypeId} {x y : Operand} {u v r : Value} (ho : o.op = .index t x y) (hx : ρ x = u) (hy : ρ y = v) (h : (Instr.index t u v).run Tryd.prog w = .ok r w) : (execOp ρ o).run Tryd.prog w = .ok (.value r) w := by
  unfold execOp
  simp only [ho, hx, hy, Sem.run_bind, h, Result.andThen_ok, Sem.run_pure]
end Go.Proofs.YtmlladpmecclbaaDoor
/- Arrays of bytes held against each other within a chain; a log that is new. -/
namespace Go.Proofs.YtmlladpmecclbaaDoor
open Go.RowKit

theorem exec_eqT {w : World} {o : Oper} {ρ : Operand → Value} {t t' : TypeId} {x y : Operand} {N M : Array Value} {b : Bool} (ho : o.op = .binOp .eql t x y t') (hx : ρ x = .agg N) (hy : ρ y = .agg M) (hT : Tryd.prog.eqGuardType Tryd.prog.depth t = false) (h : (Op.equalIn 10000 t (.agg N) (.agg M)).run Tryd.prog w = .ok b w) : (execOp ρ o).run Tryd.prog w = .ok (.value (.bool b)) w :=
  exec_binP ho hx hy (run_eqGuard_agg (P := Tryd.prog) (w := w) .eql t x y N M hT) (by rw [run_eql_struct, h]; rfl)
theorem exec_bin3 {w : World} {o : Oper} {ρ : Operand → Value} {t t' : TypeId} {x y : Operand} {N M : Array Value} {b c : Bool} (ho : o.op = .binOp .neq t x y t') (hx : ρ x = .agg N) (hy : ρ y = .agg M) (hT : Tryd.prog.eqGuardType Tryd.prog.depth t = false) (h : (Op.equalIn 10000 t (.agg N) (.agg M)).run Tryd.prog w = .ok b w) (hc : (!b) = c) : (execOp ρ o).run Tryd.prog w = .ok (.value (.bool c)) w := by
  subst hc; exact exec_neP ho hx hy hT h
/-- A log that is made new: whose its blocks are. -/
theorem own_new {w : World} {g : Nat} (hg : g = w.heap.size) : ∀ b, tagAt (fun _ => Tag.none) g .log b ≠ .none → w.heap.size ≤ b := fun b hb => by
  by_cases e : b = g
  · omega
  · exact absurd (by unfold tagAt; rw [if_neg e]) hb
end Go.Proofs.YtmlladpmecclbaaDoor
/- A row of slices of bytes, cut in two. -/
namespace Go.Proofs.YtmlladpmecclbaaDoor
open Go.RowKit

theorem Ps.nilrow {w : World} {ao : Option Addr} {cap : Nat} (h : ao = none → cap = 0) : Ps w (.slice ao 0 cap) [] := by
  cases ao with
  | none => rw [h rfl]; exact .inl ⟨rfl, .inl rfl⟩
  | some a => exact .inl ⟨rfl, .inr ⟨a, cap, rfl⟩⟩
theorem slice_hiA {a : Addr} {m cap n : Nat} (hn : n ≤ cap) (w0 : World) :
    (Instr.sliceAt 26 (.slice (some a) m cap) none (some (.int .i64 (n : Int))) none).run Tryd.prog w0 = .ok (.slice (some a) n cap) w0 := by
  have hn' : (n : Int) ≤ (cap : Int) := by omega
  obtain ⟨b, o, s⟩ := a
  go_simp
theorem slice_nilhi (w0 : World) : (Instr.sliceAt 26 (.slice none 0 0) none (some (.int .i64 0)) none).run Tryd.prog w0 = .ok (.slice none 0 0) w0 := by
  go_simp
theorem slice_nillo (w0 : World) : (Instr.sliceAt 26 (.slice none 0 0) (some (.int .i64 0)) none none).run Tryd.prog w0 = .ok (.slice none 0 0) w0 := by
  go_simp
/-- Both parts of a row. -/
theorem ps_cut {ao : Option Addr} {n cap k : Nat} {xss : List (List Nat)} {w : World} (h : Ps w (.slice ao n cap) xss) (hk : k ≤ n) (hc : n ≤ cap) :
    ∃ u1 u2, (∀ w0 : World, (Instr.sliceAt 26 (.slice ao n cap) none (some (.int .i64 (k : Int))) none).run Tryd.prog w0 = .ok u1 w0) ∧ (∀ w0 : World, (Instr.sliceAt 26 (.slice ao n cap) (some (.int .i64 (k : Int))) none none).run Tryd.prog w0 = .ok u2 w0) ∧
      ∀ w', Grow w w' → Ps w' u1 (xss.take k) ∧ Ps w' u2 (xss.drop k) := by
  have hu : Tryd.prog.underlying 26 = some (.slice (Tryd.prog.elem 26)) := by kernel_rfl
  have he : Tryd.prog.elem 26 = 22 := by kernel_rfl
  have hs : ∀ w0 : World, (sizeOf 22).run Tryd.prog w0 = .ok 1 w0 := fun w0 => by kernel_rfl
  have hki : (k : Int) ≤ (cap : Int) := by omega
  obtain ⟨ao', cap', e, hg⟩ := h.gen
  simp only [Value.slice.injEq] at e
  obtain ⟨rfl, rfl, rfl⟩ := e
  cases ao with
  | none =>
    have hn0 : xss.length = 0 := by
      rcases Nat.eq_zero_or_pos xss.length with h0 | h0
      · exact h0
      · obtain ⟨b, off, e, -⟩ := hg h0
        cases e
    have hx : xss = [] := List.eq_nil_of_length_eq_zero hn0
    subst hx
    have hcap : cap = 0 := by
      rcases h with ⟨-, e | ⟨a, c, e⟩⟩ | ⟨h0, -⟩
      · simp only [Value.slice.injEq] at e; exact e.2.2
      · cases e
      · exact absurd h0 (by simp)
    subst hcap
    obtain rfl : k = 0 := by simpa using hk
    refine ⟨.slice none 0 0, .slice none 0 0, fun w0 => ?_, fun w0 => ?_, fun w' _ => ⟨Ps.nilrow (fun _ => rfl), Ps.nilrow (fun _ => rfl)⟩⟩
    · exact slice_nilhi w0
    · exact slice_nillo w0
  | some a =>
    obtain ⟨b, off, sp⟩ := a
    refine ⟨.slice (some ⟨b, off, sp⟩) k cap, .slice (some (if cap = k then ⟨b, off, sp⟩ else (⟨b, off, sp⟩ : Addr).add k)) (xss.length - k) (cap - k), fun w0 => ?_, fun w0 => ?_, fun w' hw => ⟨?_, ?_⟩⟩
    · exact slice_hiA (by omega) w0
    · rw [run_sliceAt_slice _ _ _ _ _ _ hu, run_slice_l w0 _ _ _ _ hu .i64 (k : Int) (by omega) (by omega), he, hs]
      by_cases hcn : cap = k <;> simp [Result.andThen, sliced, hcn]
    · have hp := h.below hw
      by_cases h0 : k = 0
      · subst h0
        rw [List.take_zero]
        exact Ps.nilrow (fun e => by cases e)
      · obtain ⟨b', off', e, hb, hc'⟩ := hg (by omega)
        simp only [Option.some.injEq, Addr.mk.injEq] at e
        obtain ⟨rfl, rfl, rfl⟩ := e
        refine .inr ⟨by rw [List.length_take]; omega, b, off, cap, by rw [List.length_take, Nat.min_eq_left hk], Nat.lt_of_lt_of_le hb hw.size, fun i hi => ?_⟩
        rw [List.length_take] at hi
        obtain ⟨u, h1, h2⟩ := hc' i (by omega)
        refine ⟨u, grow_cell hw h1, ?_⟩
        have : (xss.take k).getD i [] = xss.getD i [] := by simp [List.getD, show i < k by omega]
        rw [this]; exact h2.but hw (fun _ _ _ h => h)
    · by_cases hkn : k = xss.length
      · rw [hkn, Nat.sub_self, List.drop_length]
        exact Ps.nilrow (fun e => by cases e)
      · obtain ⟨b', off', e, hb, hc'⟩ := hg (by omega)
        simp only [Option.some.injEq, Addr.mk.injEq] at e
        obtain ⟨rfl, rfl, rfl⟩ := e
        rw [if_neg (by omega), addr_add]
        refine .inr ⟨by rw [List.length_drop]; omega, b, off + k, cap - k, by rw [List.length_drop], Nat.lt_of_lt_of_le hb hw.size, fun i hi => ?_⟩
        rw [List.length_drop] at hi
        obtain ⟨u, h1, h2⟩ := hc' (k + i) (by omega)
        refine ⟨u, by rw [Nat.add_assoc]; exact grow_cell hw h1, ?_⟩
        have : (xss.drop k).getD i [] = xss.getD (k + i) [] := by simp [List.getD]
        rw [this]; exact h2.but hw (fun _ _ _ h => h)
end Go.Proofs.YtmlladpmecclbaaDoor
/- The reference's Same, over memory that only grows. -/
namespace Go.Proofs.YtmlladpmecclbaaDoor
open Go.RowKit

theorem same_grow {v u : Value} {xs ys : List Nat} {w : World} (hv : Bs w v xs) (hu : Bs w u ys) : Calls Tryd.prog 19 #[v, u] w fun e w' => e = .returned (.bool (decide (xs = ys))) ∧ Grow w w' := by
  refine (same_any hv hu).mono ?_
  rintro e w' ⟨rfl, d, rfl⟩
  exact ⟨rfl, (But.refl _ w).drewN⟩
end Go.Proofs.YtmlladpmecclbaaDoor
/- What a walk is told of a slice of slices of bytes that came in. -/
namespace Go.Proofs.YtmlladpmecclbaaDoor
open Go.ChangeShapes Go.WideShapes Go.ChangeAt Go.RowKit Go.Deep

section
variable {H : Type} {enc : TypeId × Value → H} {P : Program} {w : World} {base : Nat} {spare : Nat → Bool} {held : Bool}

theorem weightsAll_mem {e : TypeId} : ∀ {l : List (DataW H)} {d : DataW H}, d ∈ l → ∀ n ∈ d.weights P e, n ∈ DataW.weightsAll P e l
  | x :: r, d, hd, n, hn => by
    simp only [DataW.weightsAll, List.mem_append]
    rcases List.mem_cons.1 hd with rfl | hd
    · exact .inl hn
    · exact .inr (weightsAll_mem hd n hn)

/-- Bytes inside of what came in. -/
theorem view_inner {t e : TypeId} {v : Value} {d : DataW H} {ps : List MemPlace} {fuel : Nat}
    (hu : P.underlying t = some (.slice e)) (hf : P.underlying e = some (.int .u8)) (hc : P.cellsOf e = 1) (hb : P.bytesOf e = 1)
    (h : DataW.trod enc P w base spare held fuel t [v] = some (d, ps)) (hlt : ∀ x ∈ ps, x.block < w.heap.size) (hsz : ∀ n ∈ d.weights P t, n ≤ reachBytes) : ∃ zs, Bs w v zs ∧ zs.length ≤ 140737488351232 := by
  rcases open_slice1 hu hc h with ⟨hcs, _⟩ | ⟨a, len, cap, m, n, V, D, Pl, hcs, _, hl, hm, hmm, hx, hcell⟩
  · simp only [List.cons.injEq, and_true] at hcs
    subst hcs
    exact ⟨[], Bs.nil _, by simp⟩
  · simp only [List.cons.injEq, and_true] at hcs
    subst hcs
    simp only [Prod.mk.injEq] at hx
    obtain ⟨rfl, rfl⟩ := hx
    have hlm : len ≤ m := by rw [hmm]; split <;> omega
    have hreach : len * 1 ≤ 140737488351232 := by
      have := hsz ((len + (m - len)) * 1) (by simp [DataW.weights, hu, hb])
      simp only [reachBytes] at this
      omega
    have hfl : ∀ i, i < len → ∃ b : Nat, V i = .int .u8 (b : Int) ∧ b < 256 := by
      intro i hi
      obtain ⟨b, hb1, _, hw0⟩ := DataW.trod_int hf (hcell i (by omega)).2
      obtain ⟨hw, hw2⟩ : 0 ≤ b ∧ b < 256 := by
        have h8 : IntKind.u8.min ≤ b ∧ b ≤ IntKind.u8.max := by simpa [Lit.wf, go_sem] using hw0
        have e1 : IntKind.u8.min = 0 := rfl
        have e2 : IntKind.u8.max = 255 := rfl
        omega
      simp only [List.cons.injEq, and_true] at hb1
      exact ⟨b.toNat, by rw [hb1, Int.toNat_of_nonneg hw], by omega⟩
    obtain ⟨B, hB⟩ := choose_lt (α := Nat) (p := fun i b => V i = .int .u8 (b : Int) ∧ b < 256) hfl
    refine ⟨(List.range len).map B, ⟨?_, by simp; omega, ?_⟩, by simpa using hreach⟩
    · intro z hz
      obtain ⟨i, hi, rfl⟩ := List.mem_map.1 hz
      exact (hB i (by simpa using hi)).2
    · by_cases h0 : len = 0
      · subst h0; exact .inl ⟨by simp, .inr ⟨_, _, rfl⟩⟩
      · right
        obtain ⟨b, off, spot⟩ := a
        have hspot : spot = none := by simpa [Addr.add] using World.cell?_spot (hcell 0 (by omega)).1
        subst hspot
        refine ⟨by simp; omega, b, off, cap, by simp, by simpa using hl, hlt (.cell b off) (List.mem_append_left _ (MemPlace.mem_row.2 ⟨0, by omega, by simp⟩)), ?_⟩
        intro i hi
        have hi' : i < len := by simpa using hi
        rw [← add_plain, (hcell i (by omega)).1, (hB i hi').1]
        simp [hi']

/-- Slices of bytes that came in. -/
theorem view_parts {t e q : TypeId} {v : Value} {d : DataW H} {ps : List MemPlace} {r : Reach} {b0 : Nat} {ts : List TypeId} {ds : List (DataW H)} {j : Nat}
    (hu : P.underlying t = some (.slice e)) (he : P.underlying e = some (.slice q)) (hq : P.underlying q = some (.int .u8)) (hce : P.cellsOf e = 1) (hcq : P.cellsOf q = 1) (hbe : P.bytesOf e = 24) (hbq : P.bytesOf q = 1)
    (hval : Value.okWide P w r b0 t v) (h : DataW.Trod enc P w base spare held t v d ps) (hlt : ∀ x ∈ ps, x.block < w.heap.size)
    (hsz : (DataW.weightsEach P ts ds).all (· ≤ reachBytes) = true) (ht : ts[j]? = some t) (hd : ds[j]? = some d) :
    ∃ xss, Ps w v xss ∧ xss.length * 24 ≤ 140737488351232 ∧ ∀ x ∈ xss, x.length ≤ 140737488351232 := by
  obtain ⟨a0, len, cap, rfl⟩ := okWide_slice hu hval
  obtain ⟨fuel, hf1⟩ := h
  rcases open_slice1 hu hce hf1 with ⟨hcs, _⟩ | ⟨a, len', cap', m, n, V, D, Pl, hcs, _, hl, hm, hmm, hx, hcell⟩
  · simp [Value.cells] at hcs
    obtain ⟨rfl, rfl, rfl⟩ := hcs
    exact ⟨[], .inl ⟨rfl, .inl rfl⟩, by simp, by simp⟩
  · simp [Value.cells] at hcs
    obtain ⟨rfl, rfl, rfl⟩ := hcs
    simp only [Prod.mk.injEq] at hx
    obtain ⟨rfl, rfl⟩ := hx
    have hlm : len ≤ m := by rw [hmm]; split <;> omega
    have hreach : len * 24 ≤ 140737488351232 := by
      have := sized_slice hsz ht hd hu
      rw [hbe] at this
      simp only [List.length_map, List.length_range, reachBytes] at this
      omega
    have hfl : ∀ i, i < len → ∃ zs : List Nat, Bs w (V i) zs ∧ zs.length ≤ 140737488351232 := by
      intro i hi
      refine view_inner he hq hcq hbq (hcell i (by omega)).2 (fun x hx => hlt x ?_) (fun k hk => ?_)
      · exact List.mem_append_right _ (List.mem_flatMap.2 ⟨i, by simp; omega, hx⟩)
      · have hm2 : k ∈ (DataW.slice ((List.range len).map D) ((List.range (m - len)).map fun j => D (len + j))).weights P t := by
          simp only [DataW.weights, hu]
          refine List.mem_cons_of_mem _ (List.mem_append_left _ (weightsAll_mem (d := D i) ?_ k hk))
          exact List.mem_map.2 ⟨i, by simpa using hi, rfl⟩
        have := List.all_eq_true.1 hsz _ (DataW.weights_mem_each ht hd k hm2)
        simpa using this
    obtain ⟨B, hB⟩ := choose_lt (α := List Nat) (p := fun i zs => Bs w (V i) zs ∧ zs.length ≤ 140737488351232) hfl
    refine ⟨(List.range len).map B, ?_, by simpa using hreach, ?_⟩
    · by_cases h0 : len = 0
      · subst h0; exact .inl ⟨by simp, .inr ⟨_, _, rfl⟩⟩
      · right
        obtain ⟨b, off, spot⟩ := a
        have hspot : spot = none := by simpa [Addr.add] using World.cell?_spot (hcell 0 (by omega)).1
        subst hspot
        refine ⟨by simp; omega, b, off, cap, by simp, hlt (.cell b off) (List.mem_append_left _ (MemPlace.mem_row.2 ⟨0, by omega, by simp⟩)), ?_⟩
        intro i hi
        have hi' : i < len := by simpa using hi
        refine ⟨V i, ?_, ?_⟩
        · rw [← add_plain]; exact (hcell i (by omega)).1
        · have e : ((List.range len).map B).getD i [] = B i := by simp [List.getD, hi']
          rw [e]; exact (hB i hi').1
    · intro x hx
      obtain ⟨i, hi, rfl⟩ := List.mem_map.1 hx
      exact (hB i (by simpa using hi)).2
end
end Go.Proofs.YtmlladpmecclbaaDoor
/- Arrays of bytes that came in, by value, as numbers. -/
namespace Go.Proofs.YtmlladpmecclbaaDoor
open Go.ChangeShapes Go.WideShapes Go.ChangeAt Go.RowKit Go.Deep

section
variable {H : Type} {enc : TypeId × Value → H} {P : Program} {w : World} {base : Nat} {spare : Nat → Bool} {held : Bool}

theorem mapM_eachN {α β : Type} {f : α → Option β} : ∀ (L : List α) (xs : List β), L.mapM f = some xs → ∀ a ∈ L, ∃ y, f a = some y
  | [], _, _, a, ha => by cases ha
  | b :: L, xs, h, a, ha => by
    rw [List.mapM_cons] at h
    simp only [bind, Option.bind_eq_some_iff, pure, Option.some.injEq] at h
    obtain ⟨y, hy, ys, hys, rfl⟩ := h
    rcases List.mem_cons.1 ha with rfl | ha
    · exact ⟨y, hy⟩
    · exact mapM_eachN L ys hys a ha
/-- A byte by its number. -/
theorem byte_num {b : Int} (h : (Lit.int .u8 b).wf = true) : ∃ x : Nat, b = (x : Int) ∧ x < 256 := by
  have h1 : IntKind.u8.min ≤ b ∧ b ≤ IntKind.u8.max := by simpa [Lit.wf] using h
  have e1 : IntKind.u8.min = 0 := rfl
  have e2 : IntKind.u8.max = 255 := rfl
  exact ⟨b.toNat, by omega, by omega⟩
theorem view_arrN {t e : TypeId} {n : Nat} {v : Value} {d : DataW H} {ps : List MemPlace} {r : Reach} {b0 : Nat} {ts : List TypeId} {ds : List (DataW H)} {j : Nat}
    (hu : P.underlying t = some (.array n e)) (hf : P.underlying e = some (.int .u8)) (hc : P.cellsOf e = 1) (hct : P.cellsOf t = n)
    (hval : Value.okWide P w r b0 t v) (h : DataW.Trod enc P w base spare held t v d ps) (_hlt : ∀ x ∈ ps, x.block < w.heap.size)
    (_hsz : (DataW.weightsEach P ts ds).all (· ≤ reachBytes) = true) (_ht : ts[j]? = some t) (_hd : ds[j]? = some d) : ∃ b : List Nat, v = .agg (u8s b).toArray ∧ b.length = n ∧ ∀ z ∈ b, z < 256 := by
  simp only [Value.okWide, hu] at hval
  obtain ⟨cs, rfl, hs, _⟩ := hval
  rw [hct] at hs
  obtain ⟨fuel, hf1⟩ := h
  cases fuel with
  | zero => simp [DataW.trod] at hf1
  | succ m =>
    rw [DataW.trod_step] at hf1
    unfold DataW.trodStep at hf1
    simp only [hu, Value.cells] at hf1
    rw [if_pos (by rw [hct]; simpa using hs)] at hf1
    simp only [Option.map_eq_some_iff] at hf1
    obtain ⟨xs, hxs, _⟩ := hf1
    have hel : ∀ i, i < n → ∃ x : Nat, cs[i]? = some (.int .u8 (x : Int)) ∧ x < 256 := by
      intro i hi
      obtain ⟨y, hy⟩ := mapM_eachN _ _ hxs i (by simpa using hi)
      obtain ⟨b, hb, _, hw⟩ := DataW.trod_int hf hy
      obtain ⟨x, rfl, hx⟩ := byte_num hw
      refine ⟨x, ?_, hx⟩
      rw [hc, Nat.mul_one] at hb
      have hlt : i < cs.toList.length := by simp; omega
      rw [List.drop_eq_getElem_cons hlt, List.take_succ_cons, List.take_zero] at hb
      simp only [List.cons.injEq, and_true] at hb
      rw [Array.getElem?_eq_getElem (by omega)]
      simpa using hb
    obtain ⟨B, hB⟩ := choose_lt (α := Nat) (p := fun i x => cs[i]? = some (.int .u8 (x : Int)) ∧ x < 256) hel
    refine ⟨(List.range n).map B, ?_, by simp, fun z hz => by
      obtain ⟨i, hi, rfl⟩ := List.mem_map.1 hz
      exact (hB i (List.mem_range.1 hi)).2⟩
    congr 1
    apply Array.ext_getElem?
    intro i
    by_cases hi : i < n
    · rw [(hB i hi).1]
      simp [u8s, hi]
    · rw [Array.getElem?_eq_none (by omega), Array.getElem?_eq_none (by simp [u8s]; omega)]
/-- A slice that came in has no more than it has room for. -/
theorem view_room {t e : TypeId} {v : Value} {d : DataW H} {ps : List MemPlace} {r : Reach} {b0 : Nat} (hu : P.underlying t = some (.slice e)) (hce : P.cellsOf e = 1)
    (hval : Value.okWide P w r b0 t v) (h : DataW.Trod enc P w base spare held t v d ps) : ∀ ao n c, v = .slice ao n c → n ≤ c := by
  obtain ⟨a0, len, cap, rfl⟩ := okWide_slice hu hval
  obtain ⟨fuel, hf1⟩ := h
  rintro ao n c e
  cases e
  rcases open_slice1 hu hce hf1 with ⟨hcs, _⟩ | ⟨a, len', cap', m, n, V, D, Pl, hcs, _, hl, hm, hmm, hx, hcell⟩
  · simp [Value.cells] at hcs
    omega
  · simp [Value.cells] at hcs
    omega
end
end Go.Proofs.YtmlladpmecclbaaDoor
