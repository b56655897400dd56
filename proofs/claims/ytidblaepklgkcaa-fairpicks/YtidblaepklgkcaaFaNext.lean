/- passes, Wake, Pick, Next. -/
import Derived.Test.YtidblaepklgkcaaFaDo
namespace Go.Proofs.Ytidblaepklgkcaa
open Go.RowKit

def flts (l : List Nat) : List Value := l.map (fun x => .float .f64 x)
theorem infFl : (Try.prog.info? 31).map (fun i => (i.zero, i.size, i.bytes)) = some (some (.float .f64 0), 1, 8) := by kernel_rfl
theorem flts_one (l : List Nat) : ∀ u ∈ flts l, u.oneCell' = true := fun u hu => by
  obtain ⟨x, -, rfl⟩ := List.mem_map.1 hu
  rfl
theorem pss_len (T : List Sh) : (pss T).length = (awN T).length := List.length_map ..
section
variable {w w' : World} {g gt : Nat} {T : List Sh} {i : Int} {k : Nat} {t : Sh}
theorem row_cell {e : TypeId} {v : Value} {L : List Value} (h : w.ownsRow 0 e 1 v L.length L) (h0 : 0 < L.length) : ∃ b cap, v = .slice (some ⟨b, 0, none⟩) L.length cap ∧ ∀ i u, L[i]? = some u → w.cell? ⟨b, i, none⟩ = some u := by
  have hr : RowOf w (fun _ => True) e 1 v L.length L := ⟨h, fun _ _ => trivial⟩
  obtain ⟨ao, cap, e1, h1⟩ := hr.shape
  obtain ⟨b, e2, -, -, hc⟩ := h1 (by omega)
  exact ⟨b, cap, by rw [e1, e2], hc⟩
set_option maxRecDepth 100000 in
set_option maxHeartbeats 1000000 in
theorem passes_any (h : Fr w g gt T) : Calls Try.prog 51 #[ptr g] w fun e w' => ∃ v, e = .returned v ∧ w'.ownsRow 0 31 1 v (flts (pss T)).length (flts (pss T)) ∧ Grow w w' := by
  have HAW := Hid.mk' (awake_list h)
  have HH := Hid.mk' h
  have hm8 : (awN T).length ≤ 8 := Nat.le_trans (awU_len _ _) h.ok.n8
  have HM8 := Hid.mk' hm8
  clear h hm8
  go_enter Try.func51, Try.ntmps51
  go_wp2_with fail
  refine Calls.mono HAW.out ?_
  rintro e w1 ⟨v, rfl, hrow, -, hg1⟩
  obtain ⟨a, c, e1⟩ := own_sl hrow
  obtain ⟨m, hm⟩ : ∃ m, m = (awN T).length := ⟨_, rfl⟩
  rw [ints_len, ← hm] at e1
  subst e1
  have HROW := Hid.mk' hrow
  have HG1 := Hid.mk' hg1
  have HM := Hid.mk' hm
  have hmb : (m : Int) ≤ 8 := by have := HM8.out; omega
  clear hrow hg1 hm HAW
  go_wp2
  go_loopw [3, 9] (fun rv iv wr => ∃ (i : Nat) (r : Value), i ≤ m ∧ iv = .int .i64 i ∧ r = rv ∧ wr.ownsRow 0 31 1 r (flts (((awN T).take i).map (pat T))).length (flts (((awN T).take i).map (pat T))) ∧ (∀ k, r.ownBlock = some k → w1.heap.size ≤ k) ∧ Grow w1 wr) (fun _ iv _ => m - (intOf iv).toNat)
  case atStart => exact ⟨0, _, Nat.zero_le _, rfl, rfl, World.ownsRow_nil _ _ _ _, (fun k hk => by cases hk), But.refl _ _⟩
  case round =>
    rename_i rv
    obtain ⟨i, r, hin, rfl, rfl, hT, hV, hG⟩ := hrel
    have HT := Hid.mk' hT
    have HV := Hid.mk' hV
    have HG := Hid.mk' hG
    clear hT hV hG
    by_cases hlt : i < m
    · have hlti : (i : Int) < (m : Int) := by omega
      have hil : i < (awN T).length := by have := HM.out; omega
      obtain ⟨j, hj⟩ : ∃ j, (awN T)[i]? = some j := ⟨_, List.getElem?_eq_getElem hil⟩
      have hjn : j < T.length := (awU_lt (List.mem_of_getElem? hj)).1
      obtain ⟨b, cap, e1, hcell⟩ := row_cell (e := 3) (L := numv (ints (awN T))) (by have := HROW.out; rw [show (numv (ints (awN T))).length = (ints (awN T)).length from List.length_map ..]; exact this) (by rw [show (numv (ints (awN T))).length = (ints (awN T)).length from List.length_map .., ints_len]; omega)
      simp only [Value.slice.injEq] at e1
      obtain ⟨rfl, -, -⟩ := e1
      have hcj : wr.cell? ⟨b, i, none⟩ = some (.int .i64 (j : Int)) := grow_cell HG.out (hcell i _ (by unfold numv ints; rw [List.getElem?_map, List.getElem?_map, hj]; rfl))
      have HPA := Hid.mk' (pass_any (i := (j : Int)) (HH.out.grow (HG1.out.trans HG.out)))
      rw [pas_pat hjn] at HPA
      have HTK : Hid (((awN T).take (i + 1)).map (pat T) = ((awN T).take i).map (pat T) ++ [pat T j]) := Hid.mk' (by
        have h3 := List.getElem?_eq_some_iff.1 hj
        rw [List.take_succ_eq_append_getElem h3.1, h3.2, List.map_append]
        rfl)
      obtain ⟨F, hF⟩ : ∃ F, F = ((awN T).take i).map (pat T) := ⟨_, rfl⟩
      rw [← hF] at HT HTK
      have HFL : Hid (F.length ≤ 8) := Hid.mk' (by rw [hF, List.length_map, List.length_take]; have := HM8.out; omega)
      generalize pat T j = p at HPA HTK
      have HAL : Hid (Grow wr (wr.alloc (.cells #[.float .f64 p] 31))) := (But.refl _ wr).alloc _
      have HBL : Hid (Blk (wr.alloc (.cells #[.float .f64 p] 31)) wr.heap.size 31 (flts [p])) := Blk.new (L := flts [p]) rfl
      have HFLN : Hid ((flts F).length = F.length) := Hid.mk' (List.length_map ..)
      clear hil hj hjn hcell hF
      go_wp2_with fail
      refine Calls.mono HPA.out ?_
      rintro e w' ⟨rfl, hw⟩
      have h2 := hw.symm
      subst h2
      clear hw HPA hcj
      go_wp2_with (first
        | (refine wpList_runH rfl (exec_row1 (v := .float .f64 p) Try.underlying96 infFl (by decide) (by decide) rfl rfl rfl) ?_)
        | (refine wpList_someH rfl (exec_append (v := r) (n := (flts F).length) (xs := flts F) (news := flts [p]) Try.underlying96 infFl rfl (by decide) rfl rfl (ownsRow_grow HT.out HAL.out) rfl rfl (fun j u hj => HBL.out.cells0 j u hj) (flts_one _) (by have := HFL.out; have := HFLN.out; omega) (by decide)) ?_; intro v4 w4 hap)
        | fail)
      refine ⟨⟨i + 1, v4, by omega, by go_num, rfl, ?_, fun k hk => ?_, ?_⟩, by simp [intOf]; omega⟩
      · rw [HTK.out, show flts (F ++ [p]) = flts F ++ flts [p] by unfold flts; rw [List.map_append], List.length_append]
        exact hap.own
      · rcases hap.at' with e | e
        · exact HV.out k (by rw [← e]; exact hk)
        · rw [e] at hk
          have := Option.some.inj hk
          have := HG.out.size
          have := HAL.out.size
          omega
      · exact (HG.out.trans HAL.out).then hap.but (fun b hb e => by have := HV.out b e; omega)
    · have hE : (awN T).take i = awN T := List.take_of_length_le (by have := HM.out; omega)
      rw [hE] at HT
      have HG2 := Hid.mk' (HG1.out.trans HG.out)
      clear hE
      go_wp2
      go_ret
      exact ⟨_, rfl, HT.out, HG2.out⟩
/-- Wake. -/
def wkT (T : List Sh) (k : Nat) (t : Sh) : List Sh := if t.a then T else T.set k ⟨t.w, if (pss T).isEmpty then t.p else cl t.p (mnf (pss T)) (fad (mnf (pss T)) 4652218415073722368), true⟩
def wak (T : List Sh) (i : Int) : List Sh := if inR T i then (match T[i.toNat]? with | some t => wkT T i.toNat t | none => T) else T
theorem pss_le (h : Fok T) : ∀ z ∈ pss T, z ≤ 9218868437227405312 := fun z hz => by
  obtain ⟨j, -, rfl⟩ := List.mem_map.1 hz
  exact h.pat j
theorem mnf_pos (h : Fok T) (h0 : (pss T).isEmpty = false) : mnf (pss T) ∈ pss T ∧ mnf (pss T) ≤ 9218868437227405312 := by
  have h1 := (mnf_le (pss T)).2
  have hne : 0 < (pss T).length := by
    cases e : pss T with
    | nil => rw [e] at h0; cases h0
    | cons a l => simp
  rcases h1 with h1 | h1
  · exfalso
    obtain ⟨z, hz, e⟩ := mnf_mem (pss T) hne
    have h2 := pss_le h z hz
    rw [h1, rk_pos h2, show rk 9221120237041090561 = 9223372036854775807 from by decide +kernel] at e
    omega
  · exact ⟨h1, pss_le h _ h1⟩
set_option maxRecDepth 100000 in
set_option maxHeartbeats 1000000 in
theorem wake_any (h : Fr w g gt T) : Calls Try.prog 31 #[ptr g, .int .i64 i] w fun e w' => e = .returned (.int .i64 (cod T i)) ∧ FrTo w g gt (wak T i) w' := by
  have HFA := Hid.mk' (fault_any (i := i) h)
  cases hr : inR T i with
  | false =>
    have HS := Hid.mk' (h.same (But.refl _ w))
    rw [hr] at HFA
    rw [show cod T i = 1 by unfold cod; rw [hr]; rfl, show wak T i = T by unfold wak; rw [hr]; rfl]
    clear h hr
    go_enter Try.func31, Try.ntmps31
    go_wp2_with fail
    refine Calls.mono HFA.out ?_
    rintro e w' ⟨rfl, hw⟩
    have h2 := hw.symm
    subst h2
    clear hw
    go_wp2
    go_ret
    exact ⟨rfl, HS.out⟩
  | true =>
    rw [hr] at HFA
    obtain ⟨k, ⟨tw, tp, ta⟩, rfl, ht, hk⟩ := inR_iff hr
    rw [show cod T (k : Int) = 0 by unfold cod; rw [hr]; rfl, show wak T (k : Int) = wkT T k ⟨tw, tp, ta⟩ by unfold wak; rw [hr, if_pos rfl, Int.toNat_natCast, ht]]
    obtain ⟨n, hn⟩ : ∃ n, n = T.length := ⟨_, rfl⟩
    have c0 : w.cell? ⟨g, 0, none⟩ = some (.slice (some ⟨gt, 0, none⟩) n n) := by rw [hn]; exact h.b.row.cell 0
    have d2 : w.cell? ⟨gt, k * 3 + 2, none⟩ = some (.bool ta) := h.b.cell ht rfl
    have hkn : (k : Int) < (n : Int) := by omega
    have hn8 : (n : Int) ≤ 8 := by have := h.ok.n8; omega
    cases ta with
    | true =>
      have HS := Hid.mk' (h.same (But.refl _ w))
      rw [show wkT T k ⟨tw, tp, true⟩ = T from by unfold wkT; rfl]
      clear h hr ht hk hn
      go_enter Try.func31, Try.ntmps31
      go_wp2_with fail
      refine Calls.mono HFA.out ?_
      rintro e w' ⟨rfl, hw⟩
      have h2 := hw.symm
      subst h2
      clear hw
      go_wp2
      go_ret
      exact ⟨rfl, HS.out⟩
    | false =>
      have HPS := Hid.mk' (passes_any h)
      have HH := Hid.mk' h
      have HT := Hid.mk' ht
      have hL : (T.flatMap shc).length = T.length * 3 := flat_len' _ (fun x _ => shc_len x)
      have HLN1 : Hid (k * 3 + 1 < (T.flatMap shc).length) := Hid.mk' (by rw [hL]; omega)
      have HLN2 : Hid (k * 3 + 2 < (T.flatMap shc).length) := Hid.mk' (by rw [hL]; omega)
      have htok := h.ok.ok _ (List.mem_of_getElem? ht)
      have HTOK := Hid.mk' htok
      cases hpe : (pss T).isEmpty with
      | true =>
        have hps : pss T = [] := List.isEmpty_iff.1 hpe
        rw [show wkT T k ⟨tw, tp, false⟩ = T.set k ⟨tw, tp, true⟩ from by unfold wkT; rw [hpe]; rfl]
        rw [hps] at HPS
        clear h hr ht hk hn hL htok hps hpe
        go_enter Try.func31, Try.ntmps31
        go_wp2_with fail
        refine Calls.mono HFA.out ?_
        rintro e w' ⟨rfl, hw⟩
        have h2 := hw.symm
        subst h2
        clear hw
        go_wp2_with fail
        refine Calls.mono HPS.out ?_
        rintro e w1 ⟨v, rfl, hrow, hg1⟩
        obtain ⟨a, c, e1⟩ := own_sl hrow
        have e2 : v = .slice a 0 c := e1
        subst e2
        have hf1 := HH.out.grow hg1
        have HB := Hid.mk' hf1.b.tsk
        have HFIN : Hid (FrTo w g gt (T.set k ⟨tw, tp, true⟩) (w1.setCell ⟨gt, k * 3 + 2, none⟩ (.bool true))) := ⟨⟨hf1.b.set HT.out (c := 2) (by decide) rfl, hf1.ok.set _ HTOK.out⟩, (hg1.mono (fun _ _ h => h.elim)).trans (But.set1 w1 gt _ _)⟩
        clear hrow hg1 hf1 e1
        go_wp2_with (first
          | (refine wpList_skipH rfl (exec_store (g := gt) (i := k * 3 + 2) (v := .bool true) iBo rfl rfl rfl rfl HB.out HLN2.out) ?_)
          | fail)
        go_ret
        exact ⟨rfl, HFIN.out⟩
      | false =>
        obtain ⟨hmm, hmle⟩ := mnf_pos h.ok hpe
        obtain ⟨f, hf⟩ : ∃ f, f = mnf (pss T) := ⟨_, rfl⟩
        rw [show wkT T k ⟨tw, tp, false⟩ = T.set k ⟨tw, cl tp f (fad f 4652218415073722368), true⟩ from by unfold wkT; rw [hpe, ← hf]; rfl]
        rw [← hf] at hmle
        have HF := Hid.mk' hf
        have HPL : Hid (∀ z ∈ pss T, z < 18446744073709551616) := fun z hz => by have := pss_le HH.out.ok z hz; omega
        have HPL0 : Hid (0 < (pss T).length) := Hid.mk' (List.length_pos_of_mem hmm)
        have HPLM : Hid ((pss T).length ≤ 8) := Hid.mk' (by rw [pss_len]; exact Nat.le_trans (awU_len _ _) h.ok.n8)
        obtain ⟨s, hs⟩ : ∃ s, s = fad f 4652218415073722368 := ⟨_, rfl⟩
        have hsl : s ≤ 9218868437227405312 := by rw [hs]; exact fad_le _ _
        have HADD : Hid (∀ wz : World, (binOp .add 31 (.float .f64 f) (.float .f64 4652218415073722368)).run Try.prog wz = .ok (.float .f64 s) wz) := fun wz => by rw [hs]; exact add_runF _ hmle (by decide) wz
        have HCL : Hid (∀ wz : World, Calls Try.prog 53 #[.float .f64 tp, .float .f64 f, .float .f64 s] wz fun e w' => e = .returned (.float .f64 (cl tp f s)) ∧ w' = wz) := fun wz => clamp_any tp f s wz (by have := HTOK.out.2; dsimp only at this; omega) (by omega) (by omega)
        rw [← hs]
        obtain ⟨y, hy⟩ : ∃ y, y = cl tp f s := ⟨_, rfl⟩
        have HYL : Hid (y ≤ 9218868437227405312) := Hid.mk' (by
          rw [hy]
          have := HTOK.out.2
          dsimp only at this
          rcases cl_cases tp f s with e | e | e <;> rw [e] <;> omega)
        rw [← hy] at HCL ⊢
        clear h hr ht hk hn hL htok hpe hmm hf hs hy
        go_enter Try.func31, Try.ntmps31
        go_wp2_with fail
        refine Calls.mono HFA.out ?_
        rintro e w' ⟨rfl, hw⟩
        have h2 := hw.symm
        subst h2
        clear hw
        go_wp2_with fail
        refine Calls.mono HPS.out ?_
        rintro e w1 ⟨v, rfl, hrow, hg1⟩
        have hfl : (flts (pss T)).length = (pss T).length := List.length_map ..
        obtain ⟨b, cap, e1, hcell⟩ := row_cell hrow (by rw [hfl]; exact HPL0.out)
        rw [hfl] at e1
        have hmin := min_any b 0 cap (pss T) w1 (by have := HPLM.out; omega) HPL.out (fun j hj => by
          rw [Nat.zero_add]
          refine hcell j _ ?_
          unfold flts
          rw [List.getElem?_map, List.getElem?_eq_getElem hj]
          simp [List.getD, List.getElem?_eq_getElem hj])
        rw [← HF.out] at hmin
        have HMIN := Hid.mk' hmin
        have hf1 := HH.out.grow hg1
        have HF1 := Hid.mk' hf1
        have d1 : w1.cell? ⟨gt, k * 3 + 1, none⟩ = some (.float .f64 tp) := hf1.b.cell HT.out rfl
        have HG1 := Hid.mk' hg1
        obtain ⟨m, hm⟩ : ∃ m, m = (pss T).length := ⟨_, rfl⟩
        rw [← hm] at e1 HMIN
        subst e1
        have hm0 : (0 : Int) < (m : Int) := by have := HPL0.out; omega
        have hm0b : ¬ ((m : Int) ≤ 0) := by omega
        clear hrow hg1 hf1 hfl hcell hmin hm HPS HFA c0 d2
        go_wp2_with fail
        refine Calls.mono HMIN.out ?_
        rintro e w' ⟨rfl, hw⟩
        have h2 := hw.symm
        subst h2
        clear hw HMIN
        go_wp2_with (first
          | (refine wpList_runH rfl (exec_addF rfl rfl rfl (HADD.out _)) ?_)
          | fail)
        refine Calls.mono (HCL.out _) ?_
        rintro e w' ⟨rfl, hw⟩
        have h2 := hw.symm
        subst h2
        clear hw HCL
        have HB := Hid.mk' HF1.out.b.tsk
        have hs1 := HF1.out.b.set HT.out (c := 1) (u := .float .f64 y) (t' := ⟨tw, y, false⟩) (by decide) rfl
        have HS1 := Hid.mk' hs1
        have HT2 : Hid ((T.set k ⟨tw, y, false⟩)[k]? = some ⟨tw, y, false⟩) := Hid.mk' (by rw [List.getElem?_set_self (List.getElem?_eq_some_iff.1 HT.out).1])
        have HB2 := Hid.mk' hs1.tsk
        have HLN3 : Hid (k * 3 + 2 < ((T.set k ⟨tw, y, false⟩).flatMap shc).length) := Hid.mk' (by rw [flat_len' _ (fun x _ => shc_len x), List.length_set]; have := (List.getElem?_eq_some_iff.1 HT.out).1; omega)
        have HFIN : Hid (FrTo w g gt (T.set k ⟨tw, y, true⟩) ((w1.setCell ⟨gt, k * 3 + 1, none⟩ (.float .f64 y)).setCell ⟨gt, k * 3 + 2, none⟩ (.bool true))) := Hid.mk' (by
          have h5 := hs1.set HT2.out (c := 2) (u := .bool true) (t' := ⟨tw, y, true⟩) (by decide) rfl
          rw [List.set_set] at h5
          exact ⟨⟨h5, HF1.out.ok.set _ ⟨HTOK.out.1, HYL.out⟩⟩, ((HG1.out.mono (fun _ _ h => h.elim)).trans (But.set1 w1 gt _ _)).trans (But.set1 _ gt _ _)⟩)
        clear hs1
        go_wp2_with (first
          | (refine wpList_skipH rfl (exec_store (g := gt) (i := k * 3 + 1) (v := .float .f64 y) iFl rfl rfl rfl rfl HB.out HLN1.out) ?_)
          | (refine wpList_skipH rfl (exec_store (g := gt) (i := k * 3 + 2) (v := .bool true) iBo rfl rfl rfl rfl HB2.out HLN3.out) ?_)
          | fail)
        go_ret
        exact ⟨rfl, HFIN.out⟩
end
end Go.Proofs.Ytidblaepklgkcaa
