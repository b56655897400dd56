/- ghost: Opened, Forged, Twice, New; a log that is none. -/
import Derived.Test.YthpgjbblbhjndaaDoorGhStray
namespace Go.Proofs.YthpgjbblbhjndaaDoor
open Go.RowKit

theorem note_nil (v d : Value) (w : World) (hd : ∃ D, d = .agg D) : Calls Tryd.prog 25 #[.pointer none, v, d] w fun e w' => e = .returned (.tuple #[]) ∧ Grow w w' := by
  obtain ⟨D, rfl⟩ := hd
  go_enter Tryd.func25, Tryd.ntmps25
  go_wp2
  exact bodyPost_ret (results_none rfl _ _ _) rfl ⟨rfl, (But.refl _ w).alloc _⟩
theorem sealed_nil (t : Value) (w : World) (hd : ∃ D, t = .agg D) : Calls Tryd.prog 26 #[.pointer none, t] w fun e w' => e = .returned (.tuple #[]) ∧ Grow w w' := by
  obtain ⟨D, rfl⟩ := hd
  go_enter Tryd.func26, Tryd.ntmps26
  go_wp2
  exact bodyPost_ret (results_none rfl _ _ _) rfl ⟨rfl, (But.refl _ w).alloc _⟩
theorem opened_nil (t : Value) (w : World) (hd : ∃ D, t = .agg D) : Calls Tryd.prog 27 #[.pointer none, t] w fun e w' => e = .returned (.tuple #[]) ∧ Grow w w' := by
  obtain ⟨D, rfl⟩ := hd
  go_enter Tryd.func27, Tryd.ntmps27
  go_wp2
  exact bodyPost_ret (results_none rfl _ _ _) rfl ⟨rfl, (But.refl _ w).alloc _⟩
theorem blocks_nil (w : World) : Calls Tryd.prog 21 #[.pointer none] w fun e w' => e = .returned (.slice none 0 0) ∧ Grow w w' := by
  go_enter Tryd.func21, Tryd.ntmps21
  go_wp2
  go_ret
  exact ⟨rfl, But.refl _ _⟩
def logZ : List Value := [.int .i64 0, .map none, .slice none 0 0, .map none, .slice none 0 0, .slice none 0 0, .int .i64 0, .slice none 0 0]
theorem new_lg {w : World} (own : Owner) (ht : Top w own) {g : Nat} (hg : g = w.heap.size) : Lg (w.alloc (.cells logZ.toArray 70)) (tagAt own g .log) g [] [] [] := by
  have hb : Blk (w.alloc (.cells logZ.toArray 70)) g 70 logZ := Blk.new hg.symm
  refine ⟨.map none, .slice none 0 0, .map none, .slice none 0 0, .slice none 0 0, .slice none 0 0, (ht.grow (by simp)).tagAt hb.lt, tagAt_own, hb, ⟨[], .inl ⟨rfl, rfl⟩, fun D hD => ?_⟩, ⟨[], BRow.nil _ _ _, .inl ⟨rfl, fun j hj => absurd hj (Nat.not_lt_zero _)⟩⟩, ⟨[], .inl ⟨rfl, rfl⟩, fun e n hU => ⟨.slice none 0 0, [], TRow.nil _ _ _, rfl, .inr ⟨fun p hp => absurd hp List.not_mem_nil, rfl, rfl⟩⟩⟩,
    ⟨[], TRow.nil _ _ _, .inl ⟨rfl, fun j hj => absurd hj (Nat.not_lt_zero _)⟩⟩, ⟨[], BRow.nil _ _ _, rfl⟩, ⟨[], TRow.nil _ _ _, rfl, Nat.le_refl _⟩⟩
  show ∀ p : Value × Value, p ∈ [] → p.1 ≠ dkey D
  exact fun p hp => absurd hp List.not_mem_nil
theorem new_any {w : World} (own : Owner) (ht : Top w own) : Calls Tryd.prog 22 #[] w fun e w' => ∃ g, e = .returned (.pointer (some ⟨g, 0, none⟩)) ∧ g = w.heap.size ∧ Grow w w' ∧ Lg w' (tagAt own g .log) g [] [] [] := by
  have hz : ∀ w' : World, (Instr.build 70 #[]).run Tryd.prog w' = .ok (.agg logZ.toArray) w' := fun w' => run_build w' _ _ _ (by kernel_rfl)
  have HZ := Hid.mk' hz
  have HL := Hid.mk' (new_lg own ht rfl)
  obtain ⟨Z, hZ⟩ : ∃ Z, Z = logZ.toArray := ⟨_, rfl⟩
  rw [← hZ] at HZ HL
  clear hz hZ ht
  go_enter Tryd.func22, Tryd.ntmps22
  go_wp2_with (first
    | (refine wpList_build_run rfl _ [] rfl [] rfl (.agg Z) (HZ.out _) ?_)
    | fail)
  go_ret
  exact ⟨_, rfl, rfl, (But.refl _ w).alloc _, HL.out⟩
theorem bz (w : World) : (Instr.build 46 #[]).run Tryd.prog w = .ok (.agg zeroT.toArray) w := run_build w _ _ _ (by kernel_rfl)
theorem zeroT_one : ∀ u ∈ zeroT, u.oneCell' = true := by decide
theorem zeroT_len : zeroT.length = 15 := rfl
def noStray : Value := .tuple #[.agg zeroT.toArray, .bool false]
set_option maxRecDepth 100000 in
set_option maxHeartbeats 4000000 in
theorem forged_nil (w : World) : Calls Tryd.prog 16 #[.pointer none] w fun e w' => e = .returned noStray ∧ Grow w w' := by
  unfold noStray
  have hz := zT
  have HBZ := Hid.mk' bz
  have HZL : Hid (zeroT.length = 15) := rfl
  have HONE := Hid.mk' zeroT_one
  have HB : Hid (Blk (w.alloc (.cells zeroT.toArray 46)) w.heap.size 46 zeroT) := Blk.new rfl
  generalize zeroT = Z at *
  go_enter Tryd.func16, Tryd.ntmps16
  go_wp2_with (first
    | (refine wpList_build_run rfl _ [] rfl [] rfl (.agg Z.toArray) (HBZ.out _) ?_)
    | (refine wpList_store_at rfl _ _ _ rfl w.heap.size 0 Z rfl rfl 46 [] Z [] (by simpa using HB.out) rfl rfl (by rw [iT, HZL.out]) HONE.out ?_; intro W9 hb9 hbut9; rw [List.nil_append, List.append_nil] at hb9)
    | fail)
  exact bodyPost_ret (results_struct_tmp rfl _ _ w.heap.size _ _ _ _ rfl hb9 Tryd.underlying46 rfl (by rw [iT]; simp [HZL.out]) rfl) rfl ⟨rfl, ((But.refl _ w).alloc _).then hbut9 (fun i hi e => by omega)⟩
theorem results_two {P : Program} {fn : Func} {p q u : Tmp} {ty ty2 : TypeId} (h : fn.results = #[.cell p ty, .cell q ty2, .tmp u]) (tmps : Array Value) (w : World) (g g2 : Nat) (t t2 : TypeId) (cs cs2 : Array Value) (d d2 : TypeDesc) (v : Value)
    (hp : tmps.getD p undef = .pointer (some ⟨g, 0, none⟩)) (hg : w.heap[g]? = some (.cells cs t (0, 0))) (hu : P.underlying ty = some d) (hd : (match d with | .struct _ | .array _ _ => true | _ => false) = true) (hi : (P.info? ty).map (·.size) = some cs.size)
    (hp2 : tmps.getD q undef = .pointer (some ⟨g2, 0, none⟩)) (hg2 : w.heap[g2]? = some (.cells cs2 t2 (0, 0))) (hu2 : P.underlying ty2 = some d2) (hd2 : (match d2 with | .struct _ | .array _ _ => true | _ => false) = true) (hi2 : (P.info? ty2).map (·.size) = some cs2.size) (hv : tmps.getD u undef = v) :
    (results fn tmps).run P w = .ok (.tuple #[.agg cs, .agg cs2, v]) w := by
  have hp' : tmps[p]?.getD undef = .pointer (some ⟨g, 0, none⟩) := by simpa using hp
  have hq' : tmps[q]?.getD undef = .pointer (some ⟨g2, 0, none⟩) := by simpa using hp2
  have hv' : tmps[u]?.getD undef = v := by simpa using hv
  simp [results, h, hp', hq', hv', asAddr, run_loadVar_row w g t ty cs (0, 0) d hg hu hd hi, run_loadVar_row w g2 t2 ty2 cs2 (0, 0) d2 hg2 hu2 hd2 hi2]
def noTwice : Value := .tuple #[.agg zeroT.toArray, .agg zeroT.toArray, .bool false]
def tz : Tup := (0, List.replicate 12 0, [], [])
theorem tz_cells : tcells tz (.slice none 0 0) (.slice none 0 0) = zeroT := rfl
theorem tz_tv (w : World) : Tv w (fun _ => False) tz (.slice none 0 0) (.slice none 0 0) := ⟨by decide, rfl, by decide, ⟨Bs.nil w, fun h => absurd h (by decide)⟩, ⟨Bs.nil w, fun h => absurd h (by decide)⟩⟩
/-- What Forged tells. -/
def ForgedIs (S O : List Tup) (T : Tup) (ok : Bool) : Prop := (ok = true ∧ (outOf S O).head? = some T) ∨ (ok = false ∧ outOf S O = [] ∧ T = tz)
theorem strays_first {S : List Tup} {L : List TE} {i : Nat} {e0 : TE} (h : L[i]? = some e0) (hn : e0.1 ∉ S) (ha : ∀ (j : Nat) (e1 : TE), j < i → L[j]? = some e1 → e1.1 ∈ S) : (outOf S (L.map (·.1))).head? = some e0.1 := by
  unfold outOf
  rw [List.head?_filter, List.find?_eq_some_iff_getElem]
  have hi := (List.getElem?_eq_some_iff.1 h).1
  refine ⟨by simpa using hn, i, by simpa using hi, ?_, fun j hj => ?_⟩
  · have := (List.getElem?_eq_some_iff.1 h).2
    simp [this]
  · have hjl : j < L.length := by omega
    have := ha j L[j] hj (List.getElem?_eq_getElem hjl)
    simp [this]
theorem strays_none {S : List Tup} {L : List TE} (h : ∀ e1 : TE, e1 ∈ L → e1.1 ∈ S) : outOf S (L.map (·.1)) = [] := by
  unfold outOf
  rw [List.filter_eq_nil_iff]
  intro o ho
  obtain ⟨e, he, rfl⟩ := List.mem_map.1 ho
  simpa using h e he
def Sized (L : List Tup) : Prop := ∀ t ∈ L, t.2.2.1.length ≤ 140737488355328 ∧ t.2.2.2.length ≤ 140737488355328
set_option maxRecDepth 100000 in
set_option maxHeartbeats 8000000 in
theorem forged_any {w : World} {own : Owner} {gl : Nat} {P : List Pr} {S O : List Tup} (h : Lg w own gl P S O) (hsz : Sized O) (hns : S.length ≤ 1000000) (hno : O.length ≤ 1000000) :
    Calls Tryd.prog 16 #[.pointer (some ⟨gl, 0, none⟩)] w fun e w' => Grow w w' ∧ ∃ T va vs ok, e = .returned (.tuple #[.agg (tcells T va vs).toArray, .bool ok]) ∧ TNew w' w.heap.size T va vs ∧ ForgedIs S O T ok := by
  have hLg := h
  obtain ⟨vi, vc, vm, vt, vb, vq, h⟩ := h
  obtain ⟨L, hL, hLo, hLl⟩ := h.str.ex
  obtain ⟨Z, hZ⟩ : ∃ Z, Z = zeroT := ⟨_, rfl⟩
  have hz := zT
  rw [← hZ] at hz
  obtain ⟨g0, hg0⟩ : ∃ g, g = w.heap.size := ⟨_, rfl⟩
  obtain ⟨W0, hW0⟩ : ∃ W0, W0 = w.alloc (.cells Z.toArray 46) := ⟨_, rfl⟩
  have hT0 : Grow w W0 := by rw [hW0]; exact (But.refl _ w).alloc _
  have hB0 : Blk W0 g0 46 Z := by rw [hW0]; exact Blk.new hg0.symm
  have HS := Hid.mk' (fun w' (hw : Grow w w') => stray_any (hLg.but hw (fun _ _ h => h)) (hL.but hw (fun _ _ h => h) (fun _ _ h => h) (fun _ h => h) (fun _ h => h)) (Nat.le_trans hLl hno) hns)
  have c7 : W0.cell? ⟨gl, 7, none⟩ = some vq := (h.blk.but hT0 (fun h => h)).cell 7
  have HCP : Hid (∀ w' r, Grow w w' → Strays S L r → ∃ (T : Tup) (va vs : Value) (ok : Bool), r = .tuple #[.agg (tcells T va vs).toArray, .bool ok] ∧ T.2.1.length = 12 ∧ (∀ u ∈ tcells T va vs, u.oneCell' = true) ∧ ForgedIs S O T ok ∧ ∀ w'', Grow w w'' → Calls Tryd.prog 33 #[.agg (tcells T va vs).toArray] w'' fun e w3 => ∃ va' vs', e = .returned (.agg (tcells T va' vs').toArray) ∧ TNew w3 w''.heap.size T va' vs' ∧ Grow w'' w3) := by
    intro w' r hw hr
    rcases hr with ⟨i, e0, h1, rfl, h2, h3⟩ | ⟨rfl, h1⟩
    · have he := hL.el e0 (List.mem_of_getElem? h1)
      have hh := strays_first h1 h2 h3
      rw [hLo] at hh
      have hmem : e0.1 ∈ O := (List.mem_filter.1 (List.mem_of_head? hh)).1
      exact ⟨e0.1, e0.2.1, e0.2.2, true, rfl, he.nl, he.one, .inl ⟨rfl, hh⟩, fun w'' hw'' => copied_any (he.then hw'') (hsz _ hmem).1 (hsz _ hmem).2⟩
    · have hh := strays_none h1
      rw [hLo] at hh
      exact ⟨tz, .slice none 0 0, .slice none 0 0, false, rfl, rfl, zeroT_one, .inr ⟨rfl, hh, rfl⟩, fun w'' hw'' => copied_any (tz_tv w'') (by decide) (by decide)⟩
  have HZL : Hid (Z.length = 15) := by show _ = _; rw [hZ]; rfl
  have HB0 := Hid.mk' hB0
  have HT0 := Hid.mk' hT0
  have HG0 := Hid.mk' hg0
  have HW0 := Hid.mk' hW0
  rw [hW0] at c7
  clear h hLg hL hLo hLl hZ hg0 hW0 hT0 hB0 hsz hns hno
  go_enter Tryd.func16, Tryd.ntmps16
  go_wp2_with fail
  rw [← HW0.out, ← HG0.out]
  refine Calls.mono (HS.out W0 HT0.out) ?_
  rintro e W1 ⟨hg1, r, rfl, hst⟩
  obtain ⟨T, va, vs, ok, rfl, hnl, hone, hfi, hcp⟩ := HCP.out W1 r (HT0.out.trans hg1) hst
  have HG1 := Hid.mk' (HT0.out.trans hg1)
  have HR1 := Hid.mk' (HB0.out.but hg1 (fun h => h))
  have HNL := Hid.mk' hnl
  have HONE := Hid.mk' hone
  have HFI := Hid.mk' hfi
  have HCC := Hid.mk' hcp
  have HBZ : Hid (Blk (W1.alloc (.cells Z.toArray 46)) W1.heap.size 46 Z) := Blk.new rfl
  clear hg1 hst hnl hone hfi hcp HS HCP c7 HW0
  go_upto_region 4 with (first
    | (refine wpList_store_at rfl _ _ _ rfl W1.heap.size 0 (tcells T va vs) rfl rfl 46 [] Z [] (by simpa using HBZ.out) rfl (by rw [HZL.out, tcells_len HNL.out]) (by rw [iT, tcells_len HNL.out]) HONE.out ?_; intro W2 hb2 hbut2; rw [List.nil_append, List.append_nil] at hb2)
    | fail)
  obtain ⟨g2, hg2⟩ : ∃ g, g = W1.heap.size := ⟨_, rfl⟩
  rw [← hg2] at hb2 hbut2 ⊢
  have hG2 : Grow W1 W2 := ((But.refl _ W1).alloc _).then hbut2 (fun i hi e => by omega)
  have HB2 := Hid.mk' hb2
  have HGW2 := Hid.mk' (HG1.out.trans hG2)
  have HR2 := Hid.mk' (HR1.out.but hG2 (fun h => h))
  clear hb2 hbut2 hG2 hg2 HBZ HR1
  go_wp2_with (first
    | (refine wpList_load_cells rfl _ _ rfl ⟨g2, 0, none⟩ rfl (tcells T va vs) _ HB2.out.cells0 Tryd.underlying46 rfl (by rw [iT, tcells_len HNL.out]) ?_)
    | fail)
  refine Calls.mono (HCC.out W2 HGW2.out) ?_
  rintro e W3 ⟨va', vs', rfl, hnew, hg3⟩
  have HNEW := Hid.mk' hnew
  have HGW3 := Hid.mk' (HGW2.out.trans hg3)
  have HR3 := Hid.mk' (HR2.out.but hg3 (fun h => h))
  have HON2 : Hid (∀ u ∈ tcells T va' vs', u.oneCell' = true) := tcells_one hnew.aad.bs.one hnew.sea.bs.one
  clear hnew hg3
  go_wp2_with (first
    | (refine wpList_store_at rfl _ _ _ rfl g0 0 (tcells T va' vs') rfl rfl 46 [] Z [] (by simpa using HR3.out) rfl (by rw [HZL.out, tcells_len HNL.out]) (by rw [iT, tcells_len HNL.out]) HON2.out ?_; intro W9 hb9 hbut9; rw [List.nil_append, List.append_nil] at hb9)
    | fail)
  have hsz2 := HGW2.out.size
  have hgg := HG0.out
  have hg2l : g0 < W2.heap.size := HR2.out.lt
  refine bodyPost_ret (results_struct_tmp rfl _ _ g0 _ _ _ _ rfl hb9 Tryd.underlying46 rfl (by rw [iT]; simp [tcells_len HNL.out]) rfl) rfl ⟨HGW3.out.then hbut9 (fun i hi e => by omega), T, va', vs', ok, rfl, ⟨HNEW.out.ep, HNEW.out.nl, HNEW.out.nt, ?_, ?_, HNEW.out.dif⟩, HFI.out⟩
  · exact (HNEW.out.aad.but hbut9 (fun j hj _ e => by have := (HNEW.out.aad.ge j hj).1; omega)).mono (by omega)
  · exact (HNEW.out.sea.but hbut9 (fun j hj _ e => by have := (HNEW.out.sea.ge j hj).1; omega)).mono (by omega)
end Go.Proofs.YthpgjbblbhjndaaDoor
