/- ghost: useOf, copied; keys of maps; builds. -/
import Derived.Test.YthpgjbblbhjndaaDoorGhLog
import Derived.Deep.Cut
namespace Go.Proofs.YthpgjbblbhjndaaDoor
open Go.RowKit

theorem But.set1 (w : World) (g i : Nat) (u : Value) : But (· = g) w (w.setCell ⟨g, i, none⟩ u) :=
  But.setCell (R := (· = g)) (p := ⟨g, i, none⟩) (But.refl _ w) (fun _ => rfl) u
theorem lo_prog : laidOutB Tryd.prog = true := by kernel_rfl
theorem ukt : Tryd.prog.underlying 35 = some (.array 32 5) := Tryd.underlying35
theorem keyD : WideMaps.KeyLaw Tryd.prog 35 := deep_law_laid lo_prog (m := 4) (by decide) (of_decide_eq_true (by kernel_rfl)) (by kernel_rfl) (by kernel_rfl)
theorem keyU : WideMaps.KeyLaw Tryd.prog 80 := deep_law_laid lo_prog (m := 4) (by decide) (of_decide_eq_true (by kernel_rfl)) (by kernel_rfl) (by kernel_rfl)
theorem key_d {D : List Nat} (h : wf32 D) : ∃ l, keyOf Tryd.prog 35 (dkey D) = some l := key_u8s ukt (by kernel_rfl) (by kernel_rfl) (of_decide_eq_true (by kernel_rfl)) D h.1 h.2
theorem ufields : Tryd.prog.underlying 80 = some (.struct #[⟨"epoch", 43, 0, false, "", "thimble/ghost", 0⟩, ⟨"nonce", 44, 1, false, "", "thimble/ghost", 4⟩]) := by kernel_rfl
theorem key_use {e : Nat} {n : List Nat} (h : wfU e n) : ∃ l, keyOf Tryd.prog 80 (ukey e n) = some l := by
  obtain ⟨m, hm⟩ : ∃ m, Tryd.prog.types.size = m + 2 := ⟨Tryd.prog.types.size - 2, by have : 2 ≤ Tryd.prog.types.size := of_decide_eq_true (by kernel_rfl); omega⟩
  obtain ⟨ls, hl⟩ := lits_u8s (t := 44) (d := m) Tryd.underlying44 (by kernel_rfl) n h.2.1 h.2.2
  have c1 : Tryd.prog.cellsOf 43 = 1 := by kernel_rfl
  have c12 : Tryd.prog.cellsOf 44 = 12 := by kernel_rfl
  have c13 : Tryd.prog.cellsOf 80 = 13 := by kernel_rfl
  have hlen : (ucells e n).length = 13 := by simp [ucells, u8s, h.2.1]
  have hf : Value.formed Tryd.prog 80 (ukey e n) = true := by simp [Value.formed, ukey, c13, hlen]
  have hk : Tryd.prog.keyType 80 = true := by kernel_rfl
  have hwf : (Lit.int .u32 (e : Int)).wf = true := by
    have e1 : IntKind.u32.min = 0 := rfl
    have e2 : IntKind.u32.max = 4294967295 := rfl
    have := h.1
    simp only [Lit.wf, e1, e2, Bool.and_eq_true, decide_eq_true_eq]
    omega
  have e1 : ((ucells e n).drop 0).take 1 = [.int .u32 (e : Int)] := rfl
  have e2 : ((ucells e n).drop 1).take 12 = u8s n := by
    show (u8s n).take 12 = u8s n
    exact List.take_of_length_le (by simp [u8s, h.2.1])
  have hi : Tryd.prog.keyLits (m + 2) 43 [.int .u32 (e : Int)] = some [.int .u32 (e : Int)] := by
    unfold Program.keyLits
    simp only [Tryd.underlying43, hwf]
    simp
  have hs : Tryd.prog.keyLits (m + 3) 80 (ucells e n) = some ([.int .u32 (e : Int)] ++ ls) := by
    unfold Program.keyLits
    simp only [ufields, c13, hlen, List.mapM_cons, List.mapM_nil, c1, c12, e1, e2, hi, hl]
    simp
  refine ⟨.string (keyBytes ([.int .u32 (e : Int)] ++ ls)), ?_⟩
  simp only [keyOf, ufields, hk, hf, Bool.and_self, if_true, hm]
  rw [show m + 2 + 1 = m + 3 by rfl]
  show Option.map _ (Tryd.prog.keyLits (m + 3) 80 (ucells e n).toArray.toList) = _
  rw [List.toList_toArray, hs]; rfl
theorem list12 {α : Type} {n : List α} (h : n.length = 12) : ∃ a b c d e f g i j k l m, n = [a, b, c, d, e, f, g, i, j, k, l, m] := by
  match n, h with
  | [a, b, c, d, e, f, g, i, j, k, l, m], _ => exact ⟨a, b, c, d, e, f, g, i, j, k, l, m, rfl⟩
theorem build_use {e : Nat} {n : List Nat} (h : n.length = 12) (w : World) : (Instr.build 80 #[(0, .int .u32 (e : Int)), (1, .agg (u8s n).toArray)]).run Tryd.prog w = .ok (ukey e n) w := by
  refine run_build w _ _ _ ?_
  obtain ⟨a, b, c, d, e, f, g, i, j, k, l, m, rfl⟩ := list12 h
  kernel_rfl
theorem iU : (Tryd.prog.info? 80).map (·.size) = some 13 := by kernel_rfl
theorem iT : (Tryd.prog.info? 46).map (·.size) = some 15 := by kernel_rfl
theorem zU (w : World) : (zeroValue 80).run Tryd.prog w = .ok (.agg (.int .u32 0 :: List.replicate 12 (.int .u8 0)).toArray) w := by kernel_rfl
def zeroT : List Value := .int .u32 0 :: (List.replicate 12 (.int .u8 0) ++ [.slice none 0 0, .slice none 0 0])
theorem zT (w : World) : (zeroValue 46).run Tryd.prog w = .ok (.agg zeroT.toArray) w := by kernel_rfl
theorem ucells_len {e : Nat} {n : List Nat} (h : n.length = 12) : (ucells e n).length = 13 := by simp [ucells, u8s, h]
theorem ucells_one (e : Nat) (n : List Nat) : ∀ u ∈ ucells e n, u.oneCell' = true := by
  intro u hu
  rcases List.mem_cons.1 hu with rfl | hu
  · rfl
  · exact u8s_one n u hu
/-- A build, by what it runs to. -/
theorem wpList_build_run {ops : Array Oper} {rest : List Oper} {o : Oper} {a : Act} {w : World} {Q : Exit → Act → World → Prop} (hgd : o.guard = none) (t : TypeId) (parts : List (Nat × Operand)) (ho : o.op = .build t parts.toArray) (ps : List (Nat × Value)) (hp : (parts.map fun x => (x.1, a.eval x.2)) = ps) (v : Value) (hr : (Instr.build t ps.toArray).run Tryd.prog w = .ok v w)
    (h : wpList Tryd.prog ops Q rest (a.put o.dst v) w) : wpList Tryd.prog ops Q (o :: rest) a w :=
  wpList_plain hgd fun _ hK => by
    unfold Oper.wp execOp
    simp only [ho, List.map_toArray]
    rw [hp]
    simp only [Sem.run_bind, hr, Result.andThen_ok, Sem.run_pure]
    exact hK _ _ h
set_option maxRecDepth 100000 in
set_option maxHeartbeats 4000000 in
theorem useOf_any {w : World} {F : Nat → Prop} {T : Tup} {va vs : Value} (h : Tv w F T va vs) :
    Calls Tryd.prog 41 #[.agg (tcells T va vs).toArray] w fun e w' => e = .returned (ukey T.1 T.2.1) ∧ Grow w w' := by
  obtain ⟨A, hA⟩ : ∃ A, A = (tcells T va vs).toArray := ⟨_, rfl⟩
  rw [← hA]
  obtain ⟨Z, hZ⟩ : ∃ Z, Z = (Value.int .u32 0 :: List.replicate 12 (.int .u8 0)) := ⟨_, rfl⟩
  have hz := zU
  rw [← hZ] at hz
  obtain ⟨g, hg⟩ : ∃ g, g = w.heap.size := ⟨_, rfl⟩
  obtain ⟨W0, hW0⟩ : ∃ W0, W0 = ((w.alloc (.cells A 46)).alloc (.cells Z.toArray 80)) := ⟨_, rfl⟩
  have hT0 : Grow w W0 := by rw [hW0]; exact ((But.refl _ w).alloc _).alloc _
  have hA0 : Blk W0 g 46 (tcells T va vs) := by rw [hW0, hA]; exact (Blk.new hg.symm).but ((But.refl (fun _ => False) _).alloc _) (fun h => h)
  have hB0 : Blk W0 (g + 1) 80 Z := by rw [hW0]; exact Blk.new (by simp [hg])
  obtain ⟨N, hN⟩ : ∃ N, N = (u8s T.2.1).toArray := ⟨_, rfl⟩
  obtain ⟨U, hU⟩ : ∃ U, U = ukey T.1 T.2.1 := ⟨_, rfl⟩
  have hb := build_use (e := T.1) h.nl
  rw [← hN, ← hU] at hb
  have HBD := Hid.mk' hb
  have a0 := (hA0.cell 0).trans (tcells_0 _ _ _)
  have HA := Hid.mk' hA0
  have HB := Hid.mk' hB0
  have HT := Hid.mk' hT0
  have HN := Hid.mk' hN
  have HU := Hid.mk' hU
  have HL := Hid.mk' h.nl
  have HZL : Hid (Z.length = 13) := by show _ = _; rw [hZ]; rfl
  have hep := h.ep
  rw [hW0, hg] at a0
  have HG := Hid.mk' hg
  have HW := Hid.mk' hW0
  rw [← hU]
  obtain ⟨ep, non, aad, sea⟩ := T
  clear hA hg hW0 hT0 hA0 hB0 h hN hU hZ hb
  go_enter Tryd.func41, Tryd.ntmps41
  go_wp2_with (first
    | (rw [← HW.out, ← HG.out]; refine wpList_load_cells rfl _ _ rfl ⟨g, 1, none⟩ rfl (u8s non) _ (tup_non HA.out HL.out) Tryd.underlying44 rfl (by rw [i12]; simp [u8s, HL.out]) ?_; rw [← HN.out])
    | (refine wpList_build_run rfl _ [_, _] rfl [(0, .int .u32 (ep : Int)), (1, .agg N)] rfl U (HBD.out _) ?_)
    | (refine wpList_store_at rfl _ _ _ rfl (g + 1) 0 (ucells ep non) rfl HU.out 80 [] Z [] (by simpa using HB.out) rfl (by rw [HZL.out, ucells_len HL.out]) (by rw [iU, ucells_len HL.out]) (ucells_one _ _) ?_; intro w1 hb1 hbut1; rw [List.nil_append, List.append_nil] at hb1)
    | fail)
  refine bodyPost_ret (results_cell_row rfl _ _ (g + 1) _ _ _ _ rfl hb1 ufields rfl (by rw [iU]; simp [ucells_len HL.out])) rfl ⟨by rw [HU.out]; rfl, ?_⟩
  exact HT.out.then hbut1 (fun i hi e => by have := HG.out; omega)
theorem tcells_set13 {T : Tup} (h : T.2.1.length = 12) (va vs u : Value) : (tcells T va vs).set 13 u = tcells T u vs := by
  have hl : (u8s T.2.1).length = 12 := by simp [u8s, h]
  show .int .u32 (T.1 : Int) :: (u8s T.2.1 ++ [va, vs]).set 12 u = _
  rw [List.set_append_right _ _ (by omega), hl]; rfl
theorem tcells_set14 {T : Tup} (h : T.2.1.length = 12) (va vs u : Value) : (tcells T va vs).set 14 u = tcells T va u := by
  have hl : (u8s T.2.1).length = 12 := by simp [u8s, h]
  show .int .u32 (T.1 : Int) :: (u8s T.2.1 ++ [va, vs]).set 13 u = _
  rw [List.set_append_right _ _ (by omega), hl]; rfl
theorem tcells_one {T : Tup} {va vs : Value} (h1 : va.oneCell' = true) (h2 : vs.oneCell' = true) : ∀ u ∈ tcells T va vs, u.oneCell' = true := by
  intro u hu
  rcases List.mem_cons.1 hu with rfl | hu
  · rfl
  · rcases List.mem_append.1 hu with hu | hu
    · exact u8s_one _ u hu
    · rcases List.mem_cons.1 hu with rfl | hu
      · exact h1
      · rcases List.mem_cons.1 hu with rfl | hu
        · exact h2
        · cases hu
theorem Bs.one {w : World} {v : Value} {xs : List Nat} (h : Bs w v xs) : v.oneCell' = true := by
  obtain ⟨ao, cap, rfl, _⟩ := h.gen
  rfl
theorem Bs.sl {w : World} {v : Value} {xs : List Nat} (h : Bs w v xs) : ∃ ao n cap, v = .slice ao n cap := by
  obtain ⟨ao, cap, rfl, _⟩ := h.gen
  exact ⟨_, _, _, rfl⟩
theorem Tv.one {w : World} {F : Nat → Prop} {T : Tup} {va vs : Value} (h : Tv w F T va vs) : ∀ u ∈ tcells T va vs, u.oneCell' = true := tcells_one h.aad.1.one h.sea.1.one
theorem Blk.cells0 {w : World} {g : Nat} {T : TypeId} {L : List Value} (h : Blk w g T L) : ∀ j v, L[j]? = some v → w.cell? ((⟨g, 0, none⟩ : Addr).add j) = some v := by
  intro j v hv
  have e : (⟨g, 0, none⟩ : Addr).add j = ⟨g, j, none⟩ := by simp [Addr.add]; exact fun h => h.symm
  rw [e, h.cell]; exact hv
theorem Tfields : ∃ fs, Tryd.prog.underlying 46 = some (.struct fs) := ⟨_, Tryd.underlying46⟩
/-- A tuple with memory of its own. -/
structure TNew (w : World) (base : Nat) (T : Tup) (va vs : Value) : Prop where
  ep : T.1 < 4294967296
  nl : T.2.1.length = 12
  nt : ∀ z ∈ T.2.1, z < 256
  aad : Ow w base va T.2.2.1
  sea : Ow w base vs T.2.2.2
  dif : ∀ k, va.ownBlock = some k → vs.ownBlock = some k → False
set_option maxRecDepth 100000 in
set_option maxHeartbeats 4000000 in
theorem copied_any {w : World} {F : Nat → Prop} {T : Tup} {va vs : Value} (h : Tv w F T va vs) (h1 : T.2.2.1.length ≤ 140737488355328) (h2 : T.2.2.2.length ≤ 140737488355328) :
    Calls Tryd.prog 33 #[.agg (tcells T va vs).toArray] w fun e w' => ∃ va' vs', e = .returned (.agg (tcells T va' vs').toArray) ∧ TNew w' w.heap.size T va' vs' ∧ Grow w w' := by
  obtain ⟨A, hA⟩ : ∃ A, A = (tcells T va vs).toArray := ⟨_, rfl⟩
  rw [← hA]
  obtain ⟨Z, hZ⟩ : ∃ Z, Z = zeroT := ⟨_, rfl⟩
  have hz := zT
  rw [← hZ] at hz
  obtain ⟨g, hg⟩ : ∃ g, g = w.heap.size := ⟨_, rfl⟩
  obtain ⟨W0, hW0⟩ : ∃ W0, W0 = ((w.alloc (.cells A 46)).alloc (.cells Z.toArray 46)) := ⟨_, rfl⟩
  have hT0 : Grow w W0 := by rw [hW0]; exact ((But.refl _ w).alloc _).alloc _
  have hA0 : Blk W0 g 46 (tcells T va vs) := by rw [hW0, hA]; exact (Blk.new hg.symm).but ((But.refl (fun _ => False) _).alloc _) (fun h => h)
  have hB0 : Blk W0 (g + 1) 46 Z := by rw [hW0]; exact Blk.new (by simp [hg])
  have hS0 : W0.heap.size = g + 2 := by rw [hW0, hg]; simp
  have a13 := (hA0.cell 13).trans (tcells_13 h.nl _ _)
  have HC := Hid.mk' (clone_any (h.then hT0).aad.1 h1)
  have HSV : Hid (∀ w', Grow w w' → Bs w' vs T.2.2.2) := fun w' hw => (h.then hw).sea.1
  have HA := Hid.mk' hA0
  have HB := Hid.mk' hB0
  have HT := Hid.mk' hT0
  have HL := Hid.mk' h.nl
  have HE := Hid.mk' h.ep
  have HNT := Hid.mk' h.nt
  have H2 := Hid.mk' h2
  have HS0 := Hid.mk' hS0
  have HZL : Hid (Z.length = 15) := by show _ = _; rw [hZ]; rfl
  rw [hW0, hg] at a13
  have HG := Hid.mk' hg
  have HW := Hid.mk' hW0
  clear hA hg hW0 hT0 hA0 hB0 h hZ hS0 h1 h2
  go_enter Tryd.func33, Tryd.ntmps33
  go_wp2_with fail
  rw [← HW.out, ← HG.out]
  clear a13
  refine Calls.mono HC.out ?_
  rintro e w1 ⟨va', rfl, ho1, hb1⟩
  have HO1 := Hid.mk' ho1
  have HB1 : Hid (Grow W0 w1) := But.of hb1
  have HA1 := Hid.mk' (HA.out.but HB1.out (fun h => h))
  have f13 := HA1.out.free 13
  have a13 := (HA1.out.cell 13).trans (tcells_13 HL.out _ _)
  obtain ⟨ao1, n1, c1, e1⟩ := HO1.out.bs.sl
  subst e1
  clear ho1 hb1 HC HA
  go_upto_region 2 with fail
  generalize Value.slice ao1 n1 c1 = va' at *
  obtain ⟨W2, hW2⟩ : ∃ W2, W2 = w1.setCell ⟨g, 13, none⟩ va' := ⟨_, rfl⟩
  rw [← hW2]
  have hA2 : Blk W2 g 46 (tcells T va' vs) := by rw [hW2, ← tcells_set13 HL.out va vs va']; exact HA1.out.set 13 va'
  have HS2 : Hid (But (· = g) w1 W2) := by show But _ _ _; rw [hW2]; exact But.set1 _ _ _ _
  have HB2 : Hid (But (· = g) W0 W2) := (HB1.out.mono (fun _ _ h => h.elim)).trans HS2.out
  have HO2 : Hid (Ow W2 W0.heap.size va' T.2.2.1) := HO1.out.but HS2.out (fun j hj _ e => by have h9 := (HO1.out.ge j hj).1; rw [HS0.out] at h9; omega)
  have HSE2 : Hid (Bs W2 vs T.2.2.2) := HSV.out W2 (HT.out.then HB2.out (fun i hi e => by have := HG.out; omega))
  have HC2 := Hid.mk' (clone_any HSE2.out H2.out)
  have HA2 := Hid.mk' hA2
  have a14 := (hA2.cell 14).trans (tcells_14 HL.out _ _)
  clear hW2 hA2 HS2 HA1 f13 a13 HO1 HB1
  go_wp2_with fail
  refine Calls.mono HC2.out ?_
  rintro e w3 ⟨vs', rfl, ho3, hb3⟩
  have HO3 := Hid.mk' ho3
  have HB3 : Hid (Grow W2 w3) := But.of hb3
  have HA3 := Hid.mk' (HA2.out.but HB3.out (fun h => h))
  have f14 := HA3.out.free 14
  have a14 := (HA3.out.cell 14).trans (tcells_14 HL.out _ _)
  obtain ⟨ao3, n3, c3, e3⟩ := HO3.out.bs.sl
  subst e3
  clear ho3 hb3 HC2 HA2
  go_upto_region 3 with fail
  generalize Value.slice ao3 n3 c3 = vs' at *
  obtain ⟨W4, hW4⟩ : ∃ W4, W4 = w3.setCell ⟨g, 14, none⟩ vs' := ⟨_, rfl⟩
  rw [← hW4]
  have HS4 : Hid (But (· = g) w3 W4) := by show But _ _ _; rw [hW4]; exact But.set1 _ _ _ _
  have HA4 : Hid (Blk W4 g 46 (tcells T va' vs')) := by show Blk _ _ _ _; rw [hW4, ← tcells_set14 HL.out va' vs vs']; exact HA3.out.set 14 vs'
  have HB4 : Hid (But (· = g) W0 W4) := (HB2.out.trans (HB3.out.mono (fun _ _ h => h.elim))).trans HS4.out
  have HZ4 : Hid (Blk W4 (g + 1) 46 Z) := HB.out.but HB4.out (by omega)
  have HO4 : Hid (Ow W4 W2.heap.size vs' T.2.2.2) := HO3.out.but HS4.out (fun j hj _ e => by have h9 := (HO3.out.ge j hj).1; have := HB2.out.size; rw [HS0.out] at this; omega)
  have HOA : Hid (Ow W4 W0.heap.size va' T.2.2.1) := (HO2.out.but HB3.out (fun _ _ _ h => h)).but HS4.out (fun j hj _ e => by have h9 := (HO2.out.ge j hj).1; rw [HS0.out] at h9; omega)
  have HDIF : Hid (∀ k, va'.ownBlock = some k → vs'.ownBlock = some k → False) := fun k h1 h2 => by
    have e1 := (HO2.out.ge k h1).2
    have e2 := (HO4.out.ge k h2).1
    omega
  have HSZ : Hid (W0.heap.size ≤ W2.heap.size) := HB2.out.size
  have HONE : Hid (∀ u ∈ tcells T va' vs', u.oneCell' = true) := tcells_one HOA.out.bs.one HO4.out.bs.one
  clear hW4 HA3 f14 a14 HO3 HB3 HS4 HO2 HSE2 HB2
  go_wp2_with (first
    | (refine wpList_load_cells rfl _ _ rfl ⟨g, 0, none⟩ rfl (tcells T va' vs') _ HA4.out.cells0 Tryd.underlying46 rfl (by rw [iT, tcells_len HL.out]) ?_)
    | (refine wpList_store_at rfl _ _ _ rfl (g + 1) 0 (tcells T va' vs') rfl rfl 46 [] Z [] (by simpa using HZ4.out) rfl (by rw [HZL.out, tcells_len HL.out]) (by rw [iT, tcells_len HL.out]) HONE.out ?_; intro w5 hb5 hbut5; rw [List.nil_append, List.append_nil] at hb5)
    | fail)
  refine bodyPost_ret (results_cell_row rfl _ _ (g + 1) _ _ _ _ rfl hb5 Tryd.underlying46 rfl (by rw [iT]; simp [tcells_len HL.out])) rfl ⟨va', vs', rfl, ?_, ?_⟩
  · have hz0 := HS0.out
    have hgg := HG.out
    have hz2 := HSZ.out
    refine ⟨HE.out, HL.out, HNT.out, ?_, ?_, HDIF.out⟩
    · exact (HOA.out.but hbut5 (fun j hj _ e => by have h9 := (HOA.out.ge j hj).1; omega)).mono (by omega)
    · exact (HO4.out.but hbut5 (fun j hj _ e => by have h9 := (HO4.out.ge j hj).1; omega)).mono (by omega)
  · exact (HT.out.then HB4.out (fun i hi e => by have := HG.out; omega)).then hbut5 (fun i hi e => by have := HG.out; omega)
end Go.Proofs.YthpgjbblbhjndaaDoor
