/- ghost: Opened. -/
import Derived.Test.YthpgjbblbhjndaaDoorGhTwice
namespace Go.Proofs.YthpgjbblbhjndaaDoor
open Go.RowKit

theorem strays1 {S : List Tup} {e : TE} {r : Value} (h : Strays S [e] r) : (e.1 ∈ S → r = .tuple #[.agg zeroT.toArray, .bool false]) ∧ (e.1 ∉ S → r = .tuple #[.agg (tc e).toArray, .bool true]) := by
  rcases h with ⟨i, e0, h1, h2, h3, h4⟩ | ⟨h1, h2⟩
  · have : i = 0 := by
      have := (List.getElem?_eq_some_iff.1 h1).1
      simp at this; exact this
    subst this
    obtain rfl : e = e0 := by simpa using h1
    exact ⟨fun h => absurd h h3, fun _ => h2⟩
  · exact ⟨fun _ => h1, fun h => absurd (h2 e List.mem_cons_self) h⟩
theorem wpList_row1 {ops : Array Oper} {rest : List Oper} {o : Oper} {a : Act} {w : World} {Q : Exit → Act → World → Prop} (hgd : o.guard = none) {t e : TypeId} {s bytes : Nat} {z : Value} (ht : Tryd.prog.underlying t = some (.slice e)) (hinf : (Tryd.prog.info? e).map (fun i => (i.zero, i.size, i.bytes)) = some (some z, s, bytes)) (hs0 : 0 < s) (hs1 : s ≤ 1000)
    {x : Operand} (ho : o.op = .buildSlice t 1 #[(0, x)]) {v : Value} (hx : a.eval x = v) (hv : v.cells.size = s) (h : wpList Tryd.prog ops Q rest (a.put o.dst (.slice (some ⟨w.heap.size, 0, none⟩) 1 1)) (w.alloc (.cells v.cells e))) : wpList Tryd.prog ops Q (o :: rest) a w :=
  wpList_plain hgd fun _ hK => by
    unfold Oper.wp
    rw [exec_row1 ht hinf hs0 hs1 ho hx hv]
    exact hK _ _ h
theorem outOf_in {S O : List Tup} {T : Tup} (h : T ∈ S) : outOf S (O ++ [T]) = outOf S O := by
  unfold outOf; rw [List.filter_append]; simp [h]
theorem outOf_out {S O : List Tup} {T : Tup} (h : T ∉ S) : outOf S (O ++ [T]) = outOf S O ++ [T] := by
  unfold outOf; rw [List.filter_append]; simp [h]
theorem LgV.swapS {R : Nat → Prop} {w w' : World} {own own' : Owner} {gl : Nat} {P : List Pr} {S O O' : List Tup} {nh no no' : Nat} {vi vc vm vt vb vs vs' : Value} (h : LgV w own gl P S O nh no vi vc vm vt vb vs) (k : But R w w') (hr : ∀ b, own b ≠ .none → own b ≠ .log → own b ≠ .str → ¬ R b) (he : Ext own own') (ht : Top w' own')
    (hb : Blk w' gl 70 (lgc nh no' vi vc vm vt vb vs')) (hn : Str w' own' vs' S O') : LgV w' own' gl P S O' nh no' vi vc vm vt vb vs' := by
  have hx : ∀ {b t}, own b = t → t ≠ .none → t ≠ .log → t ≠ .str → ¬ R b := fun h1 h2 h3 h4 => hr _ (by rw [h1]; exact h2) (by rw [h1]; exact h3) (by rw [h1]; exact h4)
  refine ⟨ht, he.is (by decide) gl h.tag, hb, h.inm.but k ?_ he, h.cla.but k ?_ he, h.sem.but k ?_ he, h.twi.but k ?_ he, h.blo.but k ?_ he, hn⟩
  all_goals intro b hb
  · rcases hb with hb | hb <;> exact hx hb (by decide) (by decide) (by decide)
  · rcases hb with hb | hb <;> exact hx hb (by decide) (by decide) (by decide)
  · rcases hb with hb | hb | ⟨e, n, hb⟩
    · exact hx hb (by decide) (by decide) (by decide)
    · exact hx hb (by decide) (by decide) (by decide)
    · exact hx hb (by simp) (by simp) (by simp)
  · rcases hb with hb | hb <;> exact hx hb (by decide) (by decide) (by decide)
  · rcases hb with hb | hb <;> exact hx hb (by decide) (by decide) (by decide)
/-- The end of Opened where a stray was kept. -/
theorem opened_end {w W W6 : World} {own : Owner} {gl : Nat} {P : List Pr} {S O : List Tup} {T : Tup} {vi vc vm vt vb vq v2 va vs : Value} {L : List TE} (hwW : But (fun b => own b ≠ .none) w W) (h : LgV W own gl P S O P.length (O.length + 1) vi vc vm vt vb vq) (hL : TRow W (Is own .str) (Is own .byt) vq L) (hLo : outOf S (L.map (·.1)) = outOf S O) (hLl : L.length ≤ O.length) (hT : T ∉ S)
    (hnew : TNew W6 W.heap.size T va vs) (k : But (fun b => vq.ownBlock = some b ∨ b = gl) W W6) (hrow : W6.ownsRow 0 46 15 v2 (L.length + 1) (L.flatMap tc ++ tcells T va vs)) (hat : v2.ownBlock = vq.ownBlock ∨ ∃ j, v2.ownBlock = some j ∧ W.heap.size ≤ j) (hlt : ∀ j, v2.ownBlock = some j → j < W6.heap.size)
    (hdv : ∀ j, va.ownBlock = some j ∨ vs.ownBlock = some j → v2.ownBlock ≠ some j) (hb : Blk W6 gl 70 (lgc P.length (O.length + 1) vi vc vm vt vb v2)) : LgTo w own gl P S (O ++ [T]) W6 := by
  have hrq : ∀ b, vq.ownBlock = some b → own b = .str := fun b hb => hL.row.inF b hb
  have hge : ∀ j, va.ownBlock = some j ∨ vs.ownBlock = some j → W.heap.size ≤ j ∧ j < W6.heap.size := fun j hj => by
    rcases hj with hj | hj
    · exact hnew.aad.ge j hj
    · exact hnew.sea.ge j hj
  have h2n : ∀ j, v2.ownBlock = some j → own j = .none ∨ own j = .str := fun j hj => by
    rcases hat with h3 | ⟨i, hi, hi2⟩
    · rw [h3] at hj; exact .inr (hrq j hj)
    · rw [hi] at hj; cases hj; exact .inl (h.top _ hi2)
  obtain ⟨o1, ho1⟩ : ∃ o, o = tagV own v2 .str := ⟨_, rfl⟩
  have e1 : Ext own o1 := by rw [ho1]; exact Ext.tagV h2n
  have f1 : Fresh W own o1 := by
    rw [ho1]
    refine (Fresh.refl W own).tagV (fun j hj => ?_)
    rcases hat with h3 | ⟨i, hi, hi2⟩
    · rw [h3] at hj; exact .inr (hrq j hj)
    · rw [hi] at hj; cases hj; exact .inl hi2
  have t1 : Top W6 o1 := by rw [ho1]; exact (h.top.grow k.size).tagV hlt
  have hv2o : ∀ j, v2.ownBlock = some j → o1 j = .str := fun j hj => by rw [ho1]; exact tagV_own hj
  have n1 : ∀ j, va.ownBlock = some j ∨ vs.ownBlock = some j → o1 j = .none := fun j hj => by
    have h9 : own j = .none := h.top j (hge j hj).1
    rw [ho1]
    unfold tagV
    cases hq : v2.ownBlock with
    | none => exact h9
    | some i =>
      show tagAt own i .str j = .none
      unfold tagAt
      rw [if_neg (fun e => hdv j hj (by rw [hq, e]))]
      exact h9
  obtain ⟨o2, ho2⟩ : ∃ o, o = tagV (tagV o1 va .byt) vs .byt := ⟨_, rfl⟩
  have hnt : ∀ j, vs.ownBlock = some j → tagV o1 va .byt j = .none ∨ tagV o1 va .byt j = .byt := fun j hj => by
    unfold tagV
    cases hq : va.ownBlock with
    | none => exact .inl (n1 j (.inr hj))
    | some i =>
      show tagAt o1 i .byt j = .none ∨ tagAt o1 i .byt j = .byt
      unfold tagAt
      split
      · exact .inr rfl
      · exact .inl (n1 j (.inr hj))
  have ea : Ext o1 (tagV o1 va .byt) := Ext.tagV (fun j hj => .inl (n1 j (.inl hj)))
  have es : Ext (tagV o1 va .byt) o2 := by rw [ho2]; exact Ext.tagV hnt
  have e2 : Ext o1 o2 := ea.trans es
  have f2 : Fresh W own o2 := by rw [ho2]; exact (f1.tagV (fun j hj => .inl (hge j (.inl hj)).1)).tagV (fun j hj => .inl (hge j (.inr hj)).1)
  have t2 : Top W6 o2 := by rw [ho2]; exact (t1.tagV (fun j hj => (hge j (.inl hj)).2)).tagV (fun j hj => (hge j (.inr hj)).2)
  have hng : ∀ c, own c ≠ .none → own c ≠ .log → own c ≠ .str → ¬ (vq.ownBlock = some c ∨ c = gl) := fun c _ h2 h3 h4 => by
    rcases h4 with h4 | h4
    · exact h3 (hrq c h4)
    · exact h2 (by rw [h4]; exact h.tag)
  have hby : ∀ j, Is own .byt j → ¬ (vq.ownBlock = some j ∨ j = gl) := fun j hj => hng j (by rw [show own j = .byt from hj]; decide) (by rw [show own j = .byt from hj]; decide) (by rw [show own j = .byt from hj]; decide)
  have htv : Tv W6 (Is o2 .byt) T va vs := ⟨hnew.ep, hnew.nl, hnew.nt, ⟨hnew.aad.bs, fun _ j hj => es.is (t := .byt) (by decide) j (tagV_own hj)⟩, ⟨hnew.sea.bs, fun _ j hj => by show o2 j = .byt; rw [ho2]; exact tagV_own hj⟩⟩
  refine ⟨But.trans hwW (k.mono (fun b _ e => ?_)), o2, e1.trans e2, fun b hb => Nat.le_trans hwW.size (f2 b hb), vi, vc, vm, vt, vb, v2, ?_⟩
  · rcases e with e | e
    · rw [hrq b e]; decide
    · rw [e, h.tag]; decide
  · rw [List.length_append, List.length_singleton]
    refine h.swapS k hng (e1.trans e2) t2 hb ⟨L ++ [(T, va, vs)], ⟨⟨?_, fun j hj => e2.is (t := .str) (by decide) j (hv2o j hj)⟩, fun e he => ?_⟩, ?_, ?_⟩
    · rw [List.length_append, List.length_singleton, List.flatMap_append, show ([(T, va, vs)] : List TE).flatMap tc = tcells T va vs by simp [tc]]
      exact hrow
    · rcases List.mem_append.1 he with he | he
      · exact ((hL.el e he).but k hby).mono ((e1.trans e2).is (by decide))
      · rw [show e = (T, va, vs) by simpa using he]; exact htv
    · rw [List.map_append, outOf_out hT, ← hLo]
      show outOf S (L.map (·.1) ++ [T]) = _
      rw [outOf_out hT]
    · rw [List.length_append, List.length_append]; simp; exact hLl
set_option maxRecDepth 100000 in
set_option maxHeartbeats 8000000 in
theorem opened_any {w : World} {own : Owner} {gl : Nat} {P : List Pr} {S O : List Tup} {T : Tup} {va vs : Value} (h : Lg w own gl P S O) (ht : Tv w (Is own .none) T va vs) (hl1 : T.2.2.1.length ≤ 140737488355328) (hl2 : T.2.2.2.length ≤ 140737488355328) (hns : S.length ≤ 1000000) (hno : O.length < 1000000) :
    Calls Tryd.prog 27 #[.pointer (some ⟨gl, 0, none⟩), .agg (tcells T va vs).toArray] w fun e w' => e = .returned (.tuple #[]) ∧ LgTo w own gl P S (O ++ [T]) w' := by
  obtain ⟨vi, vc, vm, vt, vb, vq, h⟩ := h
  have hgl := h.top.lt (b := gl) (by rw [h.tag]; decide)
  obtain ⟨A, hA⟩ : ∃ A, A = (tcells T va vs).toArray := ⟨_, rfl⟩
  rw [← hA]
  obtain ⟨g0, hg0⟩ : ∃ g, g = w.heap.size := ⟨_, rfl⟩
  obtain ⟨W0, hW0⟩ : ∃ W0, W0 = w.alloc (.cells A 46) := ⟨_, rfl⟩
  have hT0 : Grow w W0 := by rw [hW0]; exact (But.refl _ w).alloc _
  have hB0 : Blk W0 g0 46 (tcells T va vs) := by rw [hW0, hA]; exact Blk.new hg0.symm
  have hL0 := h.blk.but hT0 (fun h => h)
  have c6 : W0.cell? ⟨gl, 6, none⟩ = some (.int .i64 (O.length : Int)) := hL0.cell 6
  have f6 := hL0.free 6
  obtain ⟨n, hpn⟩ : ∃ n, n = O.length := ⟨_, rfl⟩
  rw [← hpn] at c6 hno
  obtain ⟨W1, hW1⟩ : ∃ W1, W1 = W0.setCell ⟨gl, 6, none⟩ (.int .i64 ((n : Int) + 1)) := ⟨_, rfl⟩
  have hT1 : But (· = gl) w W1 := by rw [hW1]; exact (hT0.mono (fun _ _ h => h.elim)).trans (But.set1 _ _ _ _)
  have hs1 : W1.heap.size = g0 + 1 := by rw [hW1, hW0, hg0]; simp
  have hB1 : Blk W1 g0 46 (tcells T va vs) := by rw [hW1]; exact hB0.but (But.set1 _ _ _ _) (show ¬ (g0 = gl) by omega)
  have hq : ∀ {b t}, own b = t → t ≠ .log → ¬ (b = gl) := fun h1 h2 e => h2 (by rw [← h1, e]; exact h.tag)
  have hL1 : LgV W1 own gl P S O P.length (n + 1) vi vc vm vt vb vq := by
    refine h.swapS hT1 (fun b _ h2 _ e => h2 (by rw [e]; exact h.tag)) (Ext.refl _) (h.top.grow hT1.size) (by rw [hW1]; exact hL0.set 6 _) (h.str.but hT1 (fun b hb => ?_) (Ext.refl _))
    rcases hb with hb | hb <;> exact hq hb (by decide)
  have hV1 : Tv W1 (Is own .none) T va vs := ht.but hT1 (fun j hj e => by have h1 := h.tag; rw [← e, show own j = .none from hj] at h1; cases h1)
  have hwr : IntKind.i64.wrap ((n : Int) + 1) = (n : Int) + 1 := wrap_i64 _ (by omega) (by omega)
  have hbw : But (fun b => own b ≠ .none) w W1 := hT1.mono (fun b _ e => by rw [e, h.tag]; decide)
  have HBW := Hid.mk' hbw
  have HA := Hid.mk' hA
  have HB1 := Hid.mk' hB1
  have HL1 := Hid.mk' hL1
  have HV1 := Hid.mk' hV1
  have HNL := Hid.mk' ht.nl
  have HL1X := Hid.mk' hl1
  have HL2X := Hid.mk' hl2
  have HG0 := Hid.mk' hg0
  have HS1 := Hid.mk' hs1
  have HW0 := Hid.mk' hW0
  have HW1 := Hid.mk' hW1
  have HPN := Hid.mk' hpn
  have HNS := Hid.mk' hns
  have HNO := Hid.mk' hno
  have HASZ : Hid (A.size = 15) := by show _ = _; rw [hA]; simpa using tcells_len ht.nl va vs
  rw [hW0] at c6 f6
  clear hA hB0 hL0 hT0 hB1 hL1 hT1 hV1 ht hl1 hl2 hW0 hW1 hpn hq h hgl hg0 hns hno hs1 hbw
  go_enter Tryd.func27, Tryd.ntmps27
  go_upto_region 3 with fail
  rw [← HW0.out, ← HW1.out, ← HG0.out]
  clear c6 f6 hwr
  go_wp2_with (first
    | (refine wpList_load_cells rfl _ _ rfl ⟨g0, 0, none⟩ rfl (tcells T va vs) _ HB1.out.cells0 Tryd.underlying46 rfl (by rw [iT, tcells_len HNL.out]) ?_; rw [← HA.out])
    | (refine wpList_row1 (v := .agg A) rfl (e := 46) Tryd.underlying39 infT (by decide) (by decide) rfl rfl HASZ.out ?_)
    | fail)
  obtain ⟨W2, hW2⟩ : ∃ W2, W2 = W1.alloc (.cells A 46) := ⟨_, rfl⟩
  rw [← hW2]
  have hG2 : Grow W1 W2 := by rw [hW2]; exact (But.refl _ W1).alloc _
  have hB2 : Blk W2 W1.heap.size 46 (tcells T va vs) := by rw [hW2, HA.out]; exact Blk.new rfl
  have hL2 := HL1.out.but hG2 (fun _ _ h => h) (Ext.refl _) (HL1.out.top.grow hG2.size)
  have HST := Hid.mk' (strayV_any (Fr := fun _ => True) (L := [(T, va, vs)]) hL2 ⟨RowOf.lit (by simpa [tc] using hB2) (by simpa [tc] using tcells_len HNL.out va vs) (by simp) trivial, fun e he => by rw [show e = (T, va, vs) by simpa using he]; exact HV1.out.then hG2⟩ (by simp) HNS.out)
  have HL2 := Hid.mk' hL2
  have HBW2 := Hid.mk' (HBW.out.trans (hG2.mono (fun _ _ h => h.elim)))
  have HV2 := Hid.mk' (HV1.out.then hG2)
  clear hW2 hG2 hB2 hL2 HL1 HV1 HBW HB1 HW0 HW1
  refine Calls.mono HST.out ?_
  rintro e W3 ⟨hg3, r, rfl, hst⟩
  obtain ⟨hin, hout⟩ := strays1 hst
  have hL3 := HL2.out.but hg3 (fun _ _ h => h) (Ext.refl _) (HL2.out.top.grow hg3.size)
  have HL3 := Hid.mk' hL3
  have HBW3 := Hid.mk' (HBW2.out.trans (hg3.mono (fun _ _ h => h.elim)))
  have HV3 := Hid.mk' (HV2.out.then hg3)
  obtain ⟨Z, hZ⟩ : ∃ Z, Z = zeroT := ⟨_, rfl⟩
  have hz := zT
  rw [← hZ] at hz
  have HZL : Hid (Z.length = 15) := by show _ = _; rw [hZ]; rfl
  have HONEZ : Hid (∀ u ∈ Z, u.oneCell' = true) := by show ∀ u ∈ Z, u.oneCell' = true; rw [hZ]; exact zeroT_one
  have HBZ : Hid (Blk (W3.alloc (.cells Z.toArray 46)) W3.heap.size 46 Z) := Blk.new rfl
  have HGL3 : Hid (gl < W3.heap.size) := hL3.blk.lt
  clear hst hg3 HST HL2 HBW2 HV2 hL3
  by_cases hTS : T ∈ S
  · have hr := hin hTS
    subst hr
    rw [← hZ]
    have HTS := Hid.mk' hTS
    clear hin hout hTS hZ
    go_wp2_with (first
      | (refine wpList_store_at rfl _ _ _ rfl W3.heap.size 0 Z rfl rfl 46 [] Z [] (by simpa using HBZ.out) rfl rfl (by rw [iT, HZL.out]) HONEZ.out ?_; intro W9 hb9 hbut9; rw [List.nil_append, List.append_nil] at hb9)
      | fail)
    go_end0
    have hG9 : Grow W3 W9 := ((But.refl _ W3).alloc _).then hbut9 (fun i hi e => by omega)
    refine ⟨rfl, HBW3.out.trans (hG9.mono (fun _ _ h => h.elim)), own, Ext.refl _, Fresh.refl _ _, vi, vc, vm, vt, vb, vq, ?_⟩
    rw [List.length_append, List.length_singleton, ← HPN.out]
    have h9 := HL3.out.but hG9 (fun _ _ h => h) (Ext.refl _) (HL3.out.top.grow hG9.size)
    obtain ⟨L, q1, q2, q3⟩ := h9.str.ex
    exact ⟨h9.top, h9.tag, h9.blk, h9.inm, h9.cla, h9.sem, h9.twi, h9.blo, ⟨L, q1, by rw [outOf_in HTS.out]; exact q2, by rw [List.length_append]; omega⟩⟩
  · have hr := hout hTS
    rw [show (tc (T, va, vs)).toArray = A from HA.out.symm] at hr
    subst hr
    have HTS := Hid.mk' hTS
    have HONE := Hid.mk' HV3.out.one
    clear hin hout hTS hZ
    go_upto_region 5 with (first
      | (refine wpList_store_at rfl _ _ _ rfl W3.heap.size 0 (tcells T va vs) rfl (show _ = Value.agg _ by rw [← HA.out]; rfl) 46 [] Z [] (by simpa using HBZ.out) rfl (by rw [HZL.out, tcells_len HNL.out]) (by rw [iT, tcells_len HNL.out]) HONE.out ?_; intro W4 hb4 hbut4; rw [List.nil_append, List.append_nil] at hb4)
      | fail)
    obtain ⟨g4, hg4⟩ : ∃ g, g = W3.heap.size := ⟨_, rfl⟩
    rw [← hg4] at hb4 hbut4 ⊢
    have hG4 : Grow W3 W4 := ((But.refl _ W3).alloc _).then hbut4 (fun i hi e => by omega)
    have hL4 := HL3.out.but hG4 (fun _ _ h => h) (Ext.refl _) (HL3.out.top.grow hG4.size)
    have HL4 := Hid.mk' hL4
    have HB4 := Hid.mk' hb4
    have HBW4 := Hid.mk' (HBW3.out.trans (hG4.mono (fun _ _ h => h.elim)))
    have HV4 := Hid.mk' (HV3.out.then hG4)
    have HG4N : Hid (own g4 = .none) := HL3.out.top g4 (by omega)
    obtain ⟨L, hLr, hLo, hLl⟩ := hL4.str.ex
    have HLR := Hid.mk' hLr
    have HLO := Hid.mk' hLo
    have HLL := Hid.mk' hLl
    have HLB : Hid (L.length + 1 ≤ 1000000) := by show _ ≤ _; have := HNO.out; have := HPN.out; omega
    have HRQ : Hid (∀ b, vq.ownBlock = some b → own b = .str) := fun b hb => hLr.row.inF b hb
    have HCP := Hid.mk' (fun w' (hw : Grow W4 w') => copied_any (HV4.out.then hw) HL1X.out HL2X.out)
    rw [← HA.out] at HCP
    have hglr : ¬ (vq.ownBlock = some gl) := fun e => by have := HRQ.out gl e; rw [HL4.out.tag] at this; cases this
    have hg4r : ¬ (vq.ownBlock = some g4) := fun e => by have := HRQ.out g4 e; rw [HG4N.out] at this; cases this
    clear hb4 hbut4 hG4 hL4 hLr hLo hLl HL3 HBW3 HV3 HBZ hg4 HGL3
    refine region_chain [([0, 1, 2, 3, 4, 5], 6), ([], 7), ([], 8), ([9, 10], 11)] [] (But (fun b => vq.ownBlock = some b) W4) (Grow W4) (by kernel_rfl) (by kernel_rfl) (fun _ _ h k => h.trans k) (fun _ h => h.mono (fun _ _ h => h.elim)) ((But.refl _ W4).drew) ?_
    intro ι hne X hX
    have c7 : ∀ x, (X x).cell? ⟨gl, 7, none⟩ = some vq := fun x => (HL4.out.blk.but (hX x) hglr).cell 7
    iterate 5 (refine still_step rfl (fun K hK => ?_); go_simp; refine hK _ ?_; clear hK K)
    refine still_val rfl (.agg A) rfl (fun x => by rw [HA.out]; exact run_load_tup (HB4.out.but (hX x) hg4r).cells0 (tcells_len HNL.out _ _) rfl rfl) ?_
    intro K hK; go_simp; refine hK _ ?_; clear hK K
    refine still_nil ?_
    clear c7 hX hne
    refine turn_call rfl rfl (fun v w' => Grow W4 w' ∧ ∃ va' vs', v = .agg (tcells T va' vs').toArray ∧ TNew w' W4.heap.size T va' vs') (fun _ => But (fun b => vq.ownBlock = some b) W4) ?_ (fun _ _ h => h.1.mono (fun _ _ h => h.elim)) (.inr (fun _ _ h => h)) 33 #[.agg A] (fun _ => by kernel_rfl) ?_ ?_
    · rintro v w1 w2 ⟨h1, va', vs', h2, h3⟩ k
      exact ⟨h1.trans k, va', vs', h2, h3.but k (fun _ _ h => h)⟩
    · intro w1 hw1
      refine (HCP.out w1 hw1).mono ?_
      rintro e w2 ⟨va', vs', rfl, h1, h2⟩
      exact ⟨_, rfl, hw1.trans h2, va', vs', rfl, h1.mono hw1.size⟩
    · rintro v ⟨wq, -, va', vs', rfl, htn⟩ Y hY
      have HO1 : Hid (∀ u ∈ tcells T va' vs', u.oneCell' = true) := tcells_one htn.aad.bs.one htn.sea.bs.one
      clear wq htn
      have huni : ∀ {a b : Value}, Value.agg (tcells T va' vs').toArray = .agg (tcells T a b).toArray → va' = a ∧ vs' = b := fun {a b} e9 => by
        have h9 : (tcells T va' vs') = tcells T a b := by simpa using e9
        have h13 := congrArg (·[13]?) h9
        have h14 := congrArg (·[14]?) h9
        simp only [tcells_13 HNL.out, tcells_14 HNL.out, Option.some.injEq] at h13 h14
        exact ⟨h13, h14⟩
      have HUNI : Hid (∀ a b : Value, Value.agg (tcells T va' vs').toArray = .agg (tcells T a b).toArray → va' = a ∧ vs' = b) := fun a b => huni
      clear huni
      obtain ⟨B, hB⟩ : ∃ B, B = (tcells T va' vs').toArray := ⟨_, rfl⟩
      have HBE := Hid.mk' hB
      rw [← hB]
      clear hB
      go_simp
      refine hY _ ?_
      clear hY Y
      intro ι hne X hX
      refine still_nil ?_
      clear hX hne
      refine turn_run rfl rfl (fun v w' => Grow W4 w' ∧ TNew w' W4.heap.size T va' vs' ∧ ∃ gT, v = .slice (some ⟨gT, 0, none⟩) 1 1 ∧ Blk w' gT 46 (tcells T va' vs')) (fun _ => But (fun b => vq.ownBlock = some b) W4) ?_ (fun _ _ h => h.1.mono (fun _ _ h => h.elim)) (.inr (fun _ _ h => h)) ?_ ?_
      · rintro v w1 w2 ⟨h1, h0, gT, h2, h4⟩ k
        exact ⟨h1.trans k, h0.but k (fun _ _ h => h), gT, h2, h4.but k (fun h => h)⟩
      · rintro w1 ⟨hw1, va1, vs1, e9, h0⟩
        obtain ⟨rfl, rfl⟩ := HUNI.out _ _ e9
        have hal : Grow w1 (w1.alloc (.cells (Value.agg B).cells 46)) := (But.refl _ w1).alloc _
        refine turn_row1 (v := .agg B) (e := 46) Tryd.underlying39 infT (by decide) (by decide) rfl rfl (show B.size = 15 by rw [HBE.out]; simpa using tcells_len HNL.out _ _) ⟨hw1.trans hal, h0.but hal (fun _ _ h => h), w1.heap.size, rfl, ?_⟩
        show Blk (w1.alloc (.cells B 46)) _ _ _
        rw [HBE.out]
        exact Blk.new rfl
      · rintro v ⟨wq, -, -, gT, rfl, -⟩ Y hY
        clear wq
        go_simp
        refine hY _ ?_
        clear hY Y
        intro ι hne X hX
        refine still_nil ?_
        clear hX hne
        refine turn_run rfl rfl (fun v w' => But (fun b => vq.ownBlock = some b) W4 w' ∧ TNew w' W4.heap.size T va' vs' ∧ w'.ownsRow 0 46 15 v (L.length + 1) (L.flatMap tc ++ tcells T va' vs') ∧ (v.ownBlock = vq.ownBlock ∨ ∃ k, v.ownBlock = some k ∧ W4.heap.size ≤ k) ∧ (∀ k, v.ownBlock = some k → k < w'.heap.size) ∧ ∀ j, va'.ownBlock = some j ∨ vs'.ownBlock = some j → v.ownBlock ≠ some j) (fun _ => But (fun b => vq.ownBlock = some b) W4) ?_ (fun _ _ h => h.1) (.inr (fun _ _ h => h)) ?_ ?_
        · rintro v w1 w2 ⟨h1, h0, h2, h3, h4, h5⟩ k
          exact ⟨h1.trans (k.mono (fun _ _ h => h.elim)), h0.but k (fun _ _ h => h), ownsRow_grow h2 k, h3, fun j hj => Nat.lt_of_lt_of_le (h4 j hj) k.size, h5⟩
        · rintro w1 ⟨h1, h0, g', e, hb⟩
          obtain rfl : gT = g' := by cases e; rfl
          have hrqlt : ∀ b, vq.ownBlock = some b → b < W4.heap.size := fun b hb => HL4.out.top.lt (by rw [HRQ.out b hb]; decide)
          refine turn_append (e := 46) Tryd.underlying39 infT rfl (by decide) rfl rfl (ownsRow_grow HLR.out.row.own h1) rfl (show (tcells T va' vs').length = 1 * 15 from tcells_len HNL.out _ _) hb.cells0 HO1.out HLB.out (by decide) ?_
          intro v' w3 ha
          refine ⟨(h1.mono (fun _ _ h => h.elim)).trans ha.but, h0.but ha.but (fun j hj e => by have := hrqlt j e; omega), ha.own, ?_, ha.lt, fun j hj e => ?_⟩
          · rcases ha.at' with h | h
            · exact .inl h
            · exact .inr ⟨_, h, h1.size⟩
          · have hj2 : W4.heap.size ≤ j ∧ j < w1.heap.size := by
              rcases hj with hj | hj
              · exact h0.aad.ge j hj
              · exact h0.sea.ge j hj
            rcases ha.at' with h | h
            · rw [h] at e
              have := hrqlt j e
              omega
            · rw [h] at e; cases e; omega
        · rintro v2 ⟨wq2, -, -, hv2, -⟩ Y hY
          have HV2 := Hid.mk' (ownsRow_one hv2)
          clear hv2 wq2
          go_simp
          refine hY _ ?_
          clear hY Y
          intro ι hne X hX
          iterate 2 (refine still_step rfl (fun K hK => ?_); go_simp; refine hK _ ?_; clear hK K)
          refine still_nil ?_
          clear hX hne
          refine turn_run rfl rfl (fun _ w' => But (fun b => vq.ownBlock = some b ∨ b = gl) W4 w' ∧ TNew w' W4.heap.size T va' vs' ∧ w'.ownsRow 0 46 15 v2 (L.length + 1) (L.flatMap tc ++ tcells T va' vs') ∧ (v2.ownBlock = vq.ownBlock ∨ ∃ k, v2.ownBlock = some k ∧ W4.heap.size ≤ k) ∧ (∀ k, v2.ownBlock = some k → k < w'.heap.size) ∧ (∀ j, va'.ownBlock = some j ∨ vs'.ownBlock = some j → v2.ownBlock ≠ some j) ∧ Blk w' gl 70 (lgc P.length (n + 1) vi vc vm vt vb v2)) (fun _ _ => True) ?_ (fun _ _ _ => trivial) (.inl (by kernel_rfl)) ?_ ?_
          · rintro v w1 w2 ⟨h1, h0, h2, h3, h4, h5, h6⟩ k
            exact ⟨h1.trans (k.mono (fun _ _ h => h.elim)), h0.but k (fun _ _ h => h), ownsRow_grow h2 k, h3, fun j hj => Nat.lt_of_lt_of_le (h4 j hj) k.size, h5, h6.but k (fun h => h)⟩
          · rintro w1 ⟨h1, h0, h2, h3, h4, h5⟩
            have hbl := HL4.out.blk.but h1 hglr
            have hgl4 := HL4.out.blk.lt
            refine turn_store (v := v2) (t := 39) (by kernel_rfl) rfl rfl rfl HV2.out hbl (by simp) ⟨(h1.mono (fun _ _ h => .inl h)).trans ((But.set1 _ _ _ _).mono (fun _ _ h => .inr h)), h0.but (But.set1 _ _ _ _) (fun j hj e => by omega), ownsRow_but h2 (But.set1 _ _ _ _) ?_, h3, fun j hj => by simpa using h4 j hj, h5, hbl.set 7 _⟩
            intro j hj e
            rcases h3 with h3 | ⟨k, hk, hk2⟩
            · rw [h3, e] at hj; exact hglr hj
            · rw [hk] at hj; cases hj; omega
          · rintro v3 - Y hY
            go_simp
            refine hY _ ?_
            clear hY Y
            intro ι hne X hX
            refine still_nil ?_
            clear hX hne
            rintro W6 ⟨h1, h0, h2, h3, h4, h5, h6⟩
            go_wp2
            go_end0
            refine ⟨rfl, ?_⟩
            have hl4 := HL4.out
            rw [HPN.out] at hl4 h6
            exact opened_end HBW4.out hl4 HLR.out HLO.out HLL.out HTS.out h0 h1 h2 h3 h4 h5 h6
end Go.Proofs.YthpgjbblbhjndaaDoor
