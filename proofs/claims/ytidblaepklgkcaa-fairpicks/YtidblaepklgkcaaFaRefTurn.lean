/- The reference's row: New, Wake, Next. -/
import Derived.Test.YtidblaepklgkcaaFaRef
namespace Go.Proofs.Ytidblaepklgkcaa
open Go.RowKit

theorem bldTk (w : World) : (Instr.build 76 #[(1, .float .f64 4607182418800017408)]).run Try.prog w = .ok (.agg #[.bool false, .float .f64 4607182418800017408, .float .f64 0]) w := by kernel_rfl
theorem bldRr (w : World) : (Instr.build 74 #[]).run Try.prog w = .ok (.agg #[.slice none 0 0]) w := by kernel_rfl
theorem mnf_nil : mnf [] = 9221120237041090561 := rfl
section
variable {w w' : World} {gx gy cap : Nat} {T : List Sh} {i : Int} {k c : Nat} {t t' : Sh} {u : Value} {R : Nat → Prop}
theorem ls_none {x : Nat} (h : x ≤ 9218868437227405312) : ls x 9221120237041090561 = true := by
  unfold ls
  rw [rk_pos h, show rk 9221120237041090561 = 9223372036854775807 from by decide +kernel]
  exact decide_eq_true (by omega)
/-- The first one of the passes so far. -/
def mnU (T : List Sh) (k : Nat) : Nat := mnf ((awU T k).map (pat T))
theorem mnU_succ (T : List Sh) (k : Nat) : mnU T (k + 1) = if awk T k then (if ls (pat T k) (mnU T k) then pat T k else mnU T k) else mnU T k := by
  unfold mnU
  rw [awU_succ]
  cases awk T k with
  | false => simp
  | true => rw [if_pos rfl, List.map_append, List.map_cons, List.map_nil, mnf_snoc, if_pos rfl]
theorem mnU_lt (hok : Fok T) (k : Nat) : mnU T k < 18446744073709551616 := mnf_lt _ (fun z hz => by
  obtain ⟨j, -, rfl⟩ := List.mem_map.1 hz
  have := hok.pat j
  omega)
set_option maxRecDepth 100000 in
set_option maxHeartbeats 4000000 in
theorem rwake_any (h : Rr w gx gy cap T) : Calls Try.prog 32 #[ptr gx, .int .i64 i] w fun e w' => e = .returned (.int .i64 (cod T i)) ∧ RrTo w gx gy cap (wak T i) w' := by
  have HFA := Hid.mk' (rhas_any (i := i) h)
  cases hr : inR T i with
  | false =>
    have HS := Hid.mk' (h.same (But.refl _ w))
    rw [hr] at HFA
    rw [cod_out hr, show wak T i = T by unfold wak; rw [hr]; rfl]
    clear h hr
    go_enter Try.func32, Try.ntmps32
    go_wp2_with fail
    refine Calls.mono HFA.out ?_
    rintro e w' ⟨rfl, hw⟩
    have h2 := hw.symm
    subst h2
    clear hw
    go_wp2
    go_ret
    exact ⟨rfl, HS.out⟩
  | true =>
    rw [hr] at HFA
    obtain ⟨k, ⟨tw, tp, ta⟩, rfl, ht, hk⟩ := inR_iff hr
    rw [cod_in hr, wak_at hr ht]
    obtain ⟨n, hn⟩ : ∃ n, n = T.length := ⟨_, rfl⟩
    have c0 : w.cell? ⟨gx, 0, none⟩ = some (.slice (some ⟨gy, 0, none⟩) n cap) := by rw [hn]; exact h.row.cell 0
    have d0 : w.cell? ⟨gy, k * 3, none⟩ = some (.bool ta) := h.cell ht (c := 0) rfl
    have hkn : (k : Int) < (n : Int) := by omega
    have hn8 : (n : Int) ≤ 8 := by have := h.ok.n8; omega
    cases ta with
    | true =>
      have HS := Hid.mk' (h.same (But.refl _ w))
      rw [show wkT T k ⟨tw, tp, true⟩ = T from by unfold wkT; rfl]
      clear h hr ht hk hn
      go_enter Try.func32, Try.ntmps32
      go_wp2_with fail
      refine Calls.mono HFA.out ?_
      rintro e w' ⟨rfl, hw⟩
      have h2 := hw.symm
      subst h2
      clear hw
      go_wp2
      go_ret
      exact ⟨rfl, HS.out⟩
    | false =>
      have HH := Hid.mk' h
      have HT := Hid.mk' ht
      have HN := Hid.mk' hn
      have htok := h.ok.ok _ (List.mem_of_getElem? ht)
      have HTOK := Hid.mk' htok
      have HWK : Hid (∀ p, (if (awU T n).isEmpty then tp else cl tp (mnU T n) (fad (mnU T n) 4652218415073722368)) = p → wkT T k ⟨tw, tp, false⟩ = T.set k ⟨tw, p, true⟩) := fun p hp => by
        have h1 : (pss T).isEmpty = (awU T n).isEmpty := by
          unfold pss awN
          rw [← HN.out]
          cases awU T n <;> rfl
        have h2 : mnf (pss T) = mnU T n := by unfold mnU pss awN; rw [← HN.out]
        unfold wkT
        rw [h1, h2, ← hp]
        rfl
      clear h hr ht hk hn htok
      go_enter Try.func32, Try.ntmps32
      go_wp2_with fail
      refine Calls.mono HFA.out ?_
      rintro e w' ⟨rfl, hw⟩
      have h2 := hw.symm
      subst h2
      clear hw HFA
      go_wp2
      go_loopw [5, 6, 7] (fun sv lv iv wr => ∃ (j L : Nat), j ≤ n ∧ iv = .int .i64 j ∧ sv = .bool (!(awU T j).isEmpty) ∧ lv = .float .f64 L ∧ (L = if (awU T j).isEmpty then 0 else mnU T j) ∧ wr = w) (fun _ _ iv _ => n - (intOf iv).toNat)
      case atStart => exact ⟨0, 0, Nat.zero_le _, rfl, rfl, rfl, rfl, rfl⟩
      case round =>
        obtain ⟨j, L, hjn, rfl, rfl, rfl, hL, hwx⟩ := hrel
        have h2 := hwx.symm
        subst h2
        clear hwx
        by_cases hlt : j < n
        · have hlti : (j : Int) < (n : Int) := by omega
          obtain ⟨⟨jw, jp, ja⟩, htj⟩ : ∃ t, T[j]? = some t := ⟨_, List.getElem?_eq_getElem (by have := HN.out; omega)⟩
          have e0 : w.cell? ⟨gy, j * 3, none⟩ = some (.bool ja) := HH.out.cell htj (c := 0) rfl
          have e2 : w.cell? ⟨gy, j * 3 + 2, none⟩ = some (.float .f64 jp) := HH.out.cell htj (c := 2) rfl
          have hjp : jp ≤ 9218868437227405312 := (HH.out.ok.ok _ (List.mem_of_getElem? htj)).2
          have HAS : Hid (awU T (j + 1) = awU T j ++ if ja then [j] else []) := Hid.mk' (by rw [awU_succ, awk_of htj])
          have HMS : Hid (mnU T (j + 1) = if ja then (if ls jp (mnU T j) then jp else mnU T j) else mnU T j) := Hid.mk' (by rw [mnU_succ, awk_of htj, pat_of htj])
          clear htj
          cases ja with
          | false =>
            have HA2 : Hid (awU T (j + 1) = awU T j ∧ mnU T (j + 1) = mnU T j) := Hid.mk' ⟨by rw [HAS.out]; simp, by rw [HMS.out]; rfl⟩
            have HL := Hid.mk' hL
            clear hL
            go_wp2
            exact ⟨⟨j + 1, L, by omega, by go_num, by rw [HA2.out.1], rfl, by rw [HA2.out.1, HA2.out.2]; exact HL.out, trivial⟩, by simp [intOf]; omega⟩
          | true =>
            have HA2 : Hid ((awU T (j + 1)).isEmpty = false) := Hid.mk' (by rw [HAS.out]; simp)
            cases hem : (awU T j).isEmpty with
            | true =>
              have HM2 : Hid (mnU T (j + 1) = jp) := Hid.mk' (by
                rw [HMS.out, if_pos rfl, show mnU T j = 9221120237041090561 from by unfold mnU; rw [List.isEmpty_iff.1 hem]; rfl, ls_none hjp, if_pos rfl])
              clear hL
              go_wp2
              exact ⟨⟨j + 1, jp, by omega, by go_num, by rw [HA2.out]; rfl, rfl, by rw [HA2.out, HM2.out]; rfl, trivial⟩, by simp [intOf]; omega⟩
            | false =>
              rw [hem] at hL
              have hL2 : L = mnU T j := hL
              have hLlt := mnU_lt HH.out.ok j
              rw [← hL2] at hLlt
              have HLS := Hid.mk' (refLess_any jp L w (by omega) hLlt)
              have HL2 := Hid.mk' hL2
              clear hL hL2
              cases hls : ls jp L with
              | true =>
                rw [hls] at HLS
                have HM2 : Hid (mnU T (j + 1) = jp) := Hid.mk' (by rw [HMS.out, if_pos rfl, ← HL2.out, hls, if_pos rfl])
                go_wp2_with fail
                refine Calls.mono HLS.out ?_
                rintro e w' ⟨rfl, hw⟩
                have h2 := hw.symm
                subst h2
                clear hw
                go_wp2
                exact ⟨⟨j + 1, jp, by omega, by go_num, by rw [HA2.out]; rfl, rfl, by rw [HA2.out, HM2.out]; rfl, trivial⟩, by simp [intOf]; omega⟩
              | false =>
                rw [hls] at HLS
                have HM2 : Hid (mnU T (j + 1) = L) := Hid.mk' (by rw [HMS.out, if_pos rfl, ← HL2.out, hls]; rfl)
                go_wp2_with fail
                refine Calls.mono HLS.out ?_
                rintro e w' ⟨rfl, hw⟩
                have h2 := hw.symm
                subst h2
                clear hw
                go_wp2
                exact ⟨⟨j + 1, L, by omega, by go_num, by rw [HA2.out]; rfl, rfl, by rw [HA2.out, HM2.out]; rfl, trivial⟩, by simp [intOf]; omega⟩
        · have hje : j = n := by omega
          subst hje
          cases hem : (awU T j).isEmpty with
          | true =>
            have HWE := Hid.mk' (HWK.out tp (by rw [hem]; rfl))
            obtain ⟨M, hM, hl⟩ := HH.out.blk HT.out (c := 0) (by decide)
            have HM := Hid.mk' hM
            have HLN : Hid (k * 3 < M.length) := Hid.mk' hl
            have HFIN : Hid (RrTo w gx gy cap (T.set k ⟨tw, tp, true⟩) (w.setCell ⟨gy, k * 3, none⟩ (.bool true))) := HH.out.set HT.out (c := 0) (u := .bool true) (t' := ⟨tw, tp, true⟩) (by decide) rfl HTOK.out
            clear hL hM hl hjn
            go_wp2_with (first
              | (refine wpList_skipH rfl (exec_store (g := gy) (i := k * 3) (v := .bool true) iBo rfl rfl rfl rfl HM.out HLN.out) ?_)
              | fail)
            go_ret
            exact ⟨rfl, by rw [HWE.out]; exact HFIN.out⟩
          | false =>
            rw [hem] at hL
            have hL2 : L = mnU T j := hL
            have hmle : L ≤ 9218868437227405312 := by
              have h1 : (pss T).isEmpty = false := by
                unfold pss awN
                rw [← HN.out]
                cases h3 : awU T j with
                | nil => rw [h3] at hem; cases hem
                | cons a l => rfl
              have h2 := (mnf_pos HH.out.ok h1).2
              rw [hL2]
              unfold mnU
              unfold pss awN at h2
              rw [← HN.out] at h2
              exact h2
            obtain ⟨s, hs⟩ : ∃ s, s = fad L 4652218415073722368 := ⟨_, rfl⟩
            have hsl : s ≤ 9218868437227405312 := by rw [hs]; exact fad_le _ _
            have HADD : Hid (∀ wz : World, (binOp .add 31 (.float .f64 L) (.float .f64 4652218415073722368)).run Try.prog wz = .ok (.float .f64 s) wz) := fun wz => by rw [hs]; exact add_runF _ hmle (by decide) wz
            have HCL : Hid (∀ wz : World, Calls Try.prog 50 #[.float .f64 tp, .float .f64 L, .float .f64 s] wz fun e w' => e = .returned (.float .f64 (cl tp L s)) ∧ Grow wz w') := fun wz => (refClamp_any tp L s wz (by have := HTOK.out.2; omega) (by omega) (by omega)).mono (fun e w' h => ⟨h.1, by rw [h.2]; exact But.refl _ _⟩)
            obtain ⟨y, hy⟩ : ∃ y, y = cl tp L s := ⟨_, rfl⟩
            have HYL : Hid (y ≤ 9218868437227405312) := Hid.mk' (by
              rw [hy]
              have := HTOK.out.2
              rcases cl_cases tp L s with e | e | e <;> rw [e] <;> omega)
            have HWE := Hid.mk' (HWK.out y (by rw [hem, hy, hs, hL2]; rfl))
            rw [← hy] at HCL
            have HROW : Hid (Blk w gx 74 [.slice (some ⟨gy, 0, none⟩) j cap]) := Hid.mk' (by rw [HN.out]; exact HH.out.row)
            clear hL hL2 hs hy hmle hjn
            go_upto_region 14 with fail
            refine region_chain [([0, 1, 2, 3, 4, 5, 6, 7, 8, 9, 10, 11, 12, 13, 14, 15, 16, 17, 18], 19)] [] (Grow w) (Grow w) (by kernel_rfl) (by kernel_rfl) (fun _ _ h k => h.trans k) (fun _ h => h) ((But.refl _ w).drew) ?_
            intro ι hne2 X hX
            have x0 : ∀ z, (X z).cell? ⟨gx, 0, none⟩ = some (.slice (some ⟨gy, 0, none⟩) j cap) := fun z => (HROW.out.but (hX z) (fun h => h)).cell 0
            have x2 : ∀ z, (X z).cell? ⟨gy, k * 3 + 2, none⟩ = some (.float .f64 tp) := fun z => (HH.out.grow (hX z)).cell HT.out rfl
            iterate 15 (refine still_step rfl (fun K hK => ?_); go_simp; refine hK _ ?_; clear hK K)
            refine still_val rfl (.float .f64 s) rfl (fun z => exec_addF rfl rfl rfl (HADD.out _)) ?_
            intro K hK; go_simp; refine hK _ ?_; clear hK K
            refine still_call rfl (.float .f64 y) 50 #[.float .f64 tp, .float .f64 L, .float .f64 s] rfl (fun x => by kernel_rfl) (fun x => HCL.out _) ?_
            intro K hK; go_simp; refine hK _ ?_; clear hK K
            iterate 2 (refine still_step rfl (fun K hK => ?_); go_simp; refine hK _ ?_; clear hK K)
            refine still_nil ?_
            clear hX hne2 x0 x2 X ι
            refine turn_run rfl rfl (fun _ w2 => RrTo w gx gy cap (T.set k ⟨tw, y, false⟩) w2) (fun _ _ => True) (fun _ _ _ h k => h.then k) (fun _ _ _ => trivial) (.inl (by kernel_rfl)) ?_ ?_
            · rintro w5 h1
              obtain ⟨M, hM, hl⟩ := (HH.out.grow h1).blk HT.out (c := 2) (by decide)
              have h2 := (HH.out.grow h1).set HT.out (c := 2) (u := .float .f64 y) (t' := ⟨tw, y, false⟩) (by decide) rfl ⟨HTOK.out.1, HYL.out⟩
              exact turn_store iFl rfl rfl rfl rfl hM hl ⟨h2.rr, (h1.mono (fun _ _ h => h.elim)).trans h2.but⟩
            rintro v5 - Y hY
            go_simp
            refine hY _ ?_
            clear hY Y
            intro ι hne2 X hX
            refine still_nil ?_
            clear hX hne2 X ι
            intro w6 hw6
            have hT2 : (T.set k ⟨tw, y, false⟩)[k]? = some ⟨tw, y, false⟩ := by rw [List.getElem?_set_self (List.getElem?_eq_some_iff.1 HT.out).1]
            obtain ⟨M, hM, hl⟩ := hw6.rr.blk hT2 (c := 0) (by decide)
            have HM := Hid.mk' hM
            have HLN : Hid (k * 3 < M.length) := Hid.mk' hl
            have h7 := hw6.rr.set hT2 (c := 0) (u := .bool true) (t' := ⟨tw, y, true⟩) (by decide) rfl ⟨HTOK.out.1, HYL.out⟩
            rw [List.set_set] at h7
            have HFIN : Hid (RrTo w gx gy cap (T.set k ⟨tw, y, true⟩) (w6.setCell ⟨gy, k * 3, none⟩ (.bool true))) := ⟨h7.rr, hw6.but.trans h7.but⟩
            have f0 : w6.cell? ⟨gx, 0, none⟩ = some (.slice (some ⟨gy, 0, none⟩) j cap) := by
              have := hw6.rr.row.cell 0
              rw [List.length_set, ← HN.out] at this
              exact this
            clear hM hl h7 hT2 hw6 c0 d0
            go_wp2_with (first
              | (refine wpList_skipH rfl (exec_store (g := gy) (i := k * 3) (v := .bool true) iBo rfl rfl rfl rfl HM.out HLN.out) ?_)
              | fail)
            go_ret
            exact ⟨rfl, by rw [HWE.out]; exact HFIN.out⟩
end
end Go.Proofs.Ytidblaepklgkcaa
