/- Tuples: an epoch, a nonce, what goes along, what was sealed; the reference's Same. -/
import Derived.Test.YthpgjbblbhjndaaDoorEqItems
import Derived.Test.YthpgjbblbhjndaaDoorGuards
import Derived.Test.YthpgjbblbhjndaaDoorCuts
namespace Go.Proofs.YthpgjbblbhjndaaDoor
open Go.RowKit

/-- Bytes whose memory lies in F. -/
def Bf (w : World) (F : Nat → Prop) (v : Value) (xs : List Nat) : Prop := Bs w v xs ∧ (0 < xs.length → ∀ j, v.ownBlock = some j → F j)
theorem Bf.but {F R : Nat → Prop} {w w' : World} {v : Value} {xs : List Nat} (h : Bf w F v xs) (k : But R w w') (hr : ∀ j, F j → ¬ R j) : Bf w' F v xs := by
  refine ⟨?_, h.2⟩
  by_cases h0 : 0 < xs.length
  · exact h.1.but k (fun j hj _ => hr j (h.2 h0 j hj))
  · obtain ⟨⟨h1, h2, h3 | h3⟩, _⟩ := h
    · exact ⟨h1, h2, .inl h3⟩
    · exact absurd h3.1 h0
theorem Bf.mono {F G : Nat → Prop} {w : World} {v : Value} {xs : List Nat} (h : Bf w F v xs) (hg : ∀ j, F j → G j) : Bf w G v xs := ⟨h.1, fun h0 j hj => hg j (h.2 h0 j hj)⟩
theorem Bf.then {F : Nat → Prop} {w w' : World} {v : Value} {xs : List Nat} (h : Bf w F v xs) (k : But (fun _ => False) w w') : Bf w' F v xs := h.but k (fun _ _ h => h)
abbrev Tup := Nat × List Nat × List Nat × List Nat
def tcells (T : Tup) (va vs : Value) : List Value := .int .u32 (T.1 : Int) :: (u8s T.2.1 ++ [va, vs])
structure Tv (w : World) (F : Nat → Prop) (T : Tup) (va vs : Value) : Prop where
  ep : T.1 < 4294967296
  nl : T.2.1.length = 12
  nt : ∀ z ∈ T.2.1, z < 256
  aad : Bf w F va T.2.2.1
  sea : Bf w F vs T.2.2.2
theorem Tv.but {F R : Nat → Prop} {w w' : World} {T : Tup} {va vs : Value} (h : Tv w F T va vs) (k : But R w w') (hr : ∀ j, F j → ¬ R j) : Tv w' F T va vs := ⟨h.ep, h.nl, h.nt, h.aad.but k hr, h.sea.but k hr⟩
theorem Tv.then {F : Nat → Prop} {w w' : World} {T : Tup} {va vs : Value} (h : Tv w F T va vs) (k : But (fun _ => False) w w') : Tv w' F T va vs := h.but k (fun _ _ h => h)
theorem Tv.mono {F G : Nat → Prop} {w : World} {T : Tup} {va vs : Value} (h : Tv w F T va vs) (hg : ∀ j, F j → G j) : Tv w G T va vs := ⟨h.ep, h.nl, h.nt, h.aad.mono hg, h.sea.mono hg⟩
theorem tcells_len {T : Tup} (h : T.2.1.length = 12) (va vs : Value) : (tcells T va vs).length = 15 := by simp [tcells, u8s, h]
theorem tcells_0 (T : Tup) (va vs : Value) : (tcells T va vs)[0]? = some (.int .u32 (T.1 : Int)) := rfl
theorem tcells_non {T : Tup} (h : T.2.1.length = 12) (va vs : Value) (j : Nat) (v : Value) (hv : (u8s T.2.1)[j]? = some v) : (tcells T va vs)[1 + j]? = some v := by
  have hj : j < 12 := by
    have := (List.getElem?_eq_some_iff.1 hv).1
    simp [u8s] at this; omega
  unfold tcells
  rw [Nat.add_comm, List.getElem?_cons_succ, List.getElem?_append_left (by simp [u8s]; omega)]
  exact hv
theorem tcells_13 {T : Tup} (h : T.2.1.length = 12) (va vs : Value) : (tcells T va vs)[13]? = some va := by
  have hl : (u8s T.2.1).length = 12 := by simp [u8s, h]
  show (u8s T.2.1 ++ [va, vs])[12]? = some va
  rw [List.getElem?_append_right (by omega), hl]; rfl
theorem tcells_14 {T : Tup} (h : T.2.1.length = 12) (va vs : Value) : (tcells T va vs)[14]? = some vs := by
  have hl : (u8s T.2.1).length = 12 := by simp [u8s, h]
  show (u8s T.2.1 ++ [va, vs])[13]? = some vs
  rw [List.getElem?_append_right (by omega), hl]; rfl
theorem i12 : (Tryd.prog.info? 44).map (·.size) = some 12 := by kernel_rfl
theorem wpList_load_cells_g {ops : Array Oper} {rest : List Oper} {o : Oper} {a : Act} {w : World} {Q : Exit → Act → World → Prop} (hw : Region.wanted o (yielded ops a.tmps) = true) (ty : TypeId) (x : Operand) (ho : o.op = .load ty x)
    (ad : Addr) (hx : a.eval x = .pointer (some ad)) (cs : List Value) (d : TypeDesc) (hc : ∀ j v, cs[j]? = some v → w.cell? (ad.add j) = some v)
    (hu : Tryd.prog.underlying ty = some d) (hd : (match d with | .struct _ | .array _ _ => true | _ => false) = true) (hi : (Tryd.prog.info? ty).map (·.size) = some cs.length)
    (h : wpList Tryd.prog ops Q rest (a.put o.dst (.agg cs.toArray)) w) : wpList Tryd.prog ops Q (o :: rest) a w :=
  wpList_want hw fun _ hK => by
    unfold Oper.wp execOp
    simp only [ho, hx, Instr.loadAt, Instr.sureAddr, Sem.run_bind, Sem.run_pure, Result.andThen_ok, run_loadVar_cells w ad ty cs d hc hu hd hi]
    exact hK _ _ h
/-- The nonce of a tuple in a block of its own. -/
theorem tup_non {w : World} {g : Nat} {X : TypeId} {T : Tup} {va vs : Value} (hb : Blk w g X (tcells T va vs)) (h : T.2.1.length = 12) : ∀ j v, (u8s T.2.1)[j]? = some v → w.cell? ((⟨g, 1, none⟩ : Addr).add j) = some v := by
  intro j v hv
  have e : (⟨g, 1, none⟩ : Addr).add j = ⟨g, 1 + j, none⟩ := by simp [Addr.add]
  rw [e, hb.cell]
  exact tcells_non h va vs j v hv
set_option maxRecDepth 100000 in
set_option maxHeartbeats 4000000 in
theorem rsameT_any {w : World} {F G : Nat → Prop} {S T : Tup} {sa ss ta ts : Value} (hs : Tv w F S sa ss) (ht : Tv w G T ta ts) :
    Calls Tryd.prog 17 #[.agg (tcells S sa ss).toArray, .agg (tcells T ta ts).toArray] w fun e w' => e = .returned (.bool (decide (S = T))) ∧ But (fun _ => False) w w' := by
  obtain ⟨A, hA⟩ : ∃ A, A = (tcells S sa ss).toArray := ⟨_, rfl⟩
  obtain ⟨B, hB⟩ : ∃ B, B = (tcells T ta ts).toArray := ⟨_, rfl⟩
  rw [← hA, ← hB]
  obtain ⟨g, hg⟩ : ∃ g, g = w.heap.size := ⟨_, rfl⟩
  obtain ⟨W0, hW0⟩ : ∃ W0, W0 = ((w.alloc (.cells A 46)).alloc (.cells B 46)) := ⟨_, rfl⟩
  have al : ∀ (x : World) (o : Obj), But (fun _ => False) x (x.alloc o) := fun x o => (But.refl _ x).alloc o
  have hT0 : But (fun _ => False) w W0 := by rw [hW0]; exact (al _ _).alloc _
  have hA0 : Blk W0 g 46 (tcells S sa ss) := by rw [hW0, hA]; exact (Blk.new hg.symm).but (al _ _) (fun h => h)
  have hB0 : Blk W0 (g + 1) 46 (tcells T ta ts) := by rw [hW0, hB]; exact Blk.new (by simp [hg])
  have HS := Hid.mk' (hs.then hT0)
  have HT := Hid.mk' (ht.then hT0)
  have HT0 := Hid.mk' hT0
  have HA0 := Hid.mk' hA0
  have HB0 := Hid.mk' hB0
  have a0 := (hA0.cell 0).trans (tcells_0 _ _ _)
  have b0 := (hB0.cell 0).trans (tcells_0 _ _ _)
  have a13 := (hA0.cell 13).trans (tcells_13 hs.nl _ _)
  have b13 := (hB0.cell 13).trans (tcells_13 ht.nl _ _)
  have a14 := (hA0.cell 14).trans (tcells_14 hs.nl _ _)
  have b14 := (hB0.cell 14).trans (tcells_14 ht.nl _ _)
  have hep := hs.ep
  have hep2 := ht.ep
  have HNL := Hid.mk' hs.nl
  have HNL2 := Hid.mk' ht.nl
  obtain ⟨N1, hN1⟩ : ∃ N1, N1 = (u8s S.2.1).toArray := ⟨_, rfl⟩
  obtain ⟨N2, hN2⟩ : ∃ N2, N2 = (u8s T.2.1).toArray := ⟨_, rfl⟩
  have heq : ∀ w', (Op.equalIn 10000 44 (.agg N1) (.agg N2)).run Tryd.prog w' = .ok (decide (S.2.1 = T.2.1)) w' := by
    intro w'
    rw [hN1, hN2]
    exact equalN (n := 12) Tryd.underlying44 S.2.1 T.2.1 hs.nl ht.nl w'
  have HN1 := Hid.mk' hN1
  have HN2 := Hid.mk' hN2
  have HSM := Hid.mk' (same_any HS.out.aad.1 HT.out.aad.1)
  have HSS : Hid (∀ d, Calls Tryd.prog 14 #[ss, ts] (W0.drewN d) fun e w' => e = .returned (.bool (decide (S.2.2.2 = T.2.2.2))) ∧ ∃ d2, w' = (W0.drewN d).drewN d2) := by
    intro d
    have hd : But (fun _ => False) W0 (W0.drewN d) := (But.refl _ W0).drewN
    exact same_any (HS.out.sea.then hd).1 (HT.out.sea.then hd).1
  have HAU : Hid (∀ d, (W0.drewN d).cell? ⟨g, 14, none⟩ = some ss ∧ (W0.drewN d).cell? ⟨g + 1, 14, none⟩ = some ts) := fun d => ⟨a14, b14⟩
  rw [hW0, hg] at a0 b0
  have HW0 := Hid.mk' hW0
  have HG := Hid.mk' hg
  obtain ⟨sep, snon, saad, ssea⟩ := S
  obtain ⟨tep, tnon, taad, tsea⟩ := T
  clear hA hB hg hW0 al hT0 hA0 hB0 hs ht hN1 hN2 a14 b14
  by_cases e1 : sep = tep
  · subst e1
    by_cases e2 : snon = tnon
    · rw [decide_eq_true e2] at heq
      by_cases e3 : saad = taad
      · rw [decide_eq_true e3] at HSM
        by_cases e4 : ssea = tsea
        · rw [decide_eq_true e4] at HSS
          rw [decide_eq_true (by rw [e2, e3, e4])]
          clear e2 e3 e4
          go_enter Tryd.func17, Tryd.ntmps17
          go_wp2_with (first
            | (rw [← HW0.out, ← HG.out]; refine wpList_load_cells_g rfl _ _ rfl ⟨g, 1, none⟩ rfl (u8s snon) _ (tup_non HA0.out HNL.out) Tryd.underlying44 rfl (by rw [i12]; simp [u8s, HNL.out]) ?_; rw [← HN1.out])
            | (refine wpList_load_cells_g rfl _ _ rfl ⟨g + 1, 1, none⟩ rfl (u8s tnon) _ (tup_non HB0.out HNL2.out) Tryd.underlying44 rfl (by rw [i12]; simp [u8s, HNL2.out]) ?_; rw [← HN2.out])
            | fail)
          refine Calls.mono HSM.out ?_
          rintro e w1 ⟨rfl, d, rfl⟩
          obtain ⟨c1, c2⟩ := HAU.out d
          have HSD := Hid.mk' (HSS.out d)
          have HTD : Hid (But (fun _ => False) w (W0.drewN d)) := HT0.out.drewN
          generalize W0.drewN d = W1 at *
          go_wp2_with fail
          refine Calls.mono HSD.out ?_
          rintro e w2 ⟨rfl, d2, rfl⟩
          have HT2 : Hid (But (fun _ => False) w (W1.drewN d2)) := HTD.out.drewN
          go_wp2
          go_ret
          exact ⟨rfl, HT2.out⟩
        · rw [decide_eq_false e4] at HSS
          rw [decide_eq_false (by intro e; simp only [Prod.mk.injEq] at e; exact e4 e.2.2.2)]
          clear e2 e3 e4
          go_enter Tryd.func17, Tryd.ntmps17
          go_wp2_with (first
            | (rw [← HW0.out, ← HG.out]; refine wpList_load_cells_g rfl _ _ rfl ⟨g, 1, none⟩ rfl (u8s snon) _ (tup_non HA0.out HNL.out) Tryd.underlying44 rfl (by rw [i12]; simp [u8s, HNL.out]) ?_; rw [← HN1.out])
            | (refine wpList_load_cells_g rfl _ _ rfl ⟨g + 1, 1, none⟩ rfl (u8s tnon) _ (tup_non HB0.out HNL2.out) Tryd.underlying44 rfl (by rw [i12]; simp [u8s, HNL2.out]) ?_; rw [← HN2.out])
            | fail)
          refine Calls.mono HSM.out ?_
          rintro e w1 ⟨rfl, d, rfl⟩
          obtain ⟨c1, c2⟩ := HAU.out d
          have HSD := Hid.mk' (HSS.out d)
          have HTD : Hid (But (fun _ => False) w (W0.drewN d)) := HT0.out.drewN
          generalize W0.drewN d = W1 at *
          go_wp2_with fail
          refine Calls.mono HSD.out ?_
          rintro e w2 ⟨rfl, d2, rfl⟩
          have HT2 : Hid (But (fun _ => False) w (W1.drewN d2)) := HTD.out.drewN
          go_wp2
          go_ret
          exact ⟨rfl, HT2.out⟩
      · rw [decide_eq_false e3] at HSM
        rw [decide_eq_false (by intro e; simp only [Prod.mk.injEq] at e; exact e3 e.2.2.1)]
        clear e2 e3
        go_enter Tryd.func17, Tryd.ntmps17
        go_wp2_with (first
          | (rw [← HW0.out, ← HG.out]; refine wpList_load_cells_g rfl _ _ rfl ⟨g, 1, none⟩ rfl (u8s snon) _ (tup_non HA0.out HNL.out) Tryd.underlying44 rfl (by rw [i12]; simp [u8s, HNL.out]) ?_; rw [← HN1.out])
          | (refine wpList_load_cells_g rfl _ _ rfl ⟨g + 1, 1, none⟩ rfl (u8s tnon) _ (tup_non HB0.out HNL2.out) Tryd.underlying44 rfl (by rw [i12]; simp [u8s, HNL2.out]) ?_; rw [← HN2.out])
          | fail)
        refine Calls.mono HSM.out ?_
        rintro e w1 ⟨rfl, d, rfl⟩
        have HTD : Hid (But (fun _ => False) w (W0.drewN d)) := HT0.out.drewN
        go_wp2
        go_ret
        exact ⟨rfl, HTD.out⟩
    · rw [decide_eq_false e2] at heq
      rw [decide_eq_false (by intro e; simp only [Prod.mk.injEq] at e; exact e2 e.2.1)]
      clear e2
      go_enter Tryd.func17, Tryd.ntmps17
      go_wp2_with (first
        | (rw [← HW0.out, ← HG.out]; refine wpList_load_cells_g rfl _ _ rfl ⟨g, 1, none⟩ rfl (u8s snon) _ (tup_non HA0.out HNL.out) Tryd.underlying44 rfl (by rw [i12]; simp [u8s, HNL.out]) ?_; rw [← HN1.out])
        | (refine wpList_load_cells_g rfl _ _ rfl ⟨g + 1, 1, none⟩ rfl (u8s tnon) _ (tup_non HB0.out HNL2.out) Tryd.underlying44 rfl (by rw [i12]; simp [u8s, HNL2.out]) ?_; rw [← HN2.out])
        | fail)
      go_ret
      exact ⟨rfl, HT0.out⟩
  · rw [decide_eq_false (by intro e; simp only [Prod.mk.injEq] at e; exact e1 e.1)]
    have e1' : ((sep : Int) == (tep : Int)) = false := by simp; omega
    clear e1
    go_enter Tryd.func17, Tryd.ntmps17
    go_wp2
    go_ret
    exact ⟨rfl, by rw [← HW0.out]; exact HT0.out⟩
end Go.Proofs.YthpgjbblbhjndaaDoor
