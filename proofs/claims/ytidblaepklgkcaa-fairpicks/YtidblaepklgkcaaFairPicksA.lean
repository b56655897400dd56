/- The walk of FairPicks, of 60 acts at most. -/
import Derived.Test.YtidblaepklgkcaaFairPicksM
namespace Go.Proofs.Ytidblaepklgkcaa
open Go.ChangeShapes Go.WideShapes Go.ChangeAt Go.RowKit

set_option maxRecDepth 100000 in
set_option maxHeartbeats 30000000 in
theorem fairPicks_walkA (x : Int) (v1 : Value) (l : Nat) (A : Nat → FA) (z : Int) (w : World) (_ : (Lit.int .i64 x).wf = true) (hv : FActs w v1 l A) (hz0 : (Lit.int .i64 z).wf = true) (hcp : l ≤ 60) : Calls Try.prog 3 #[.int .i64 x, v1, .int .i64 z] w fun e w' => e = .returned (.bool true) ∧ Below w.heap.size w w' := by
  obtain ⟨ao, cap1, rfl⟩ := hv.len
  have HV := Hid.mk' hv
  have HCP := Hid.mk' hcp
  have hl : (l : Int) ≤ 140737488351232 := by have := hv.1; omega
  have HP := Hid.mk' (pick_any x 8 w (by decide) (by decide))
  obtain ⟨m0, hm0⟩ : ∃ m : Nat, x % 8 = (m : Int) := ⟨(x % 8).toNat, by have := Int.emod_nonneg x (b := 8) (by decide); omega⟩
  rw [hm0] at HP
  obtain ⟨n, hn⟩ : ∃ n : Nat, (n : Int) = 1 + (m0 : Int) := ⟨m0 + 1, by omega⟩
  have hmn : 1 + (m0 : Int) = (n : Int) := hn.symm
  have h1 : 1 ≤ n := by omega
  have h8 : n ≤ 8 := by omega
  have HN := Hid.mk' (fl_new w n h1 h8)
  have hni : (n : Int) ≤ 8 := by omega
  have hmi : (m0 : Int) ≤ 7 := by omega
  have H1 := Hid.mk' h1
  have H8 := Hid.mk' h8
  have HZ := Hid.mk' (wfZ hz0)
  clear hv h1 h8 hn hm0 hz0 hcp
  go_enter Try.func3, Try.ntmps3
  go_wp2_with fail
  refine Calls.mono HP.out ?_
  rintro e w' ⟨rfl, hw⟩
  have h2 := hw.symm
  subst h2
  clear hw HP
  go_wp2_with fail
  refine Calls.mono HN.out ?_
  rintro e w1 ⟨g, gt, rfl, h1⟩
  have HRN := Hid.mk' (rnew_any w1 n H1.out H8.out)
  have HF1 := Hid.mk' h1
  clear h1 HN
  go_wp2_with fail
  refine Calls.mono HRN.out ?_
  intro e w2 h2
  obtain ⟨gx, gy, cap, rfl, h3⟩ := fx_new HF1.out h2
  have H3 := Hid.mk' h3
  clear h2 h3 HF1 HRN
  go_wp2
  clear hmn
  go_loopw [10] (fun iv wr => ∃ i : Nat, i ≤ l ∧ i ≤ 60 ∧ iv = .int .i64 i ∧ ∃ T : List Sh, Fx w wr g gt gx gy cap T) (fun iv _ => l - (intOf iv).toNat)
  case atStart => exact ⟨0, Nat.zero_le _, by decide, rfl, _, H3.out⟩
  case round =>
    clear H3
    obtain ⟨i, hil, hi3, rfl, T, hF⟩ := hrel
    by_cases hlt : i < l ∧ i < 60
    · have hlti : (i : Int) < (l : Int) := by omega
      have hlt2 : (i : Int) < 60 := by omega
      obtain ⟨b, off, cap', e1, hbl, hA⟩ := HV.out.at hlt.1
      simp only [Value.slice.injEq] at e1
      obtain ⟨rfl, -, rfl⟩ := e1
      obtain ⟨hok, hcell⟩ := hA i hlt.1
      have HCW : Hid (∀ c u, (fac (A i))[c]? = some u → wr.cell? ((⟨b, off + i * 3, none⟩ : Addr).add c) = some u) := fun c u hc => by
        rw [addr_add]; exact grow_cell hF.fl.grow (hcell c u hc)
      have HDO := Hid.mk' (do_any hF hok)
      have HLT := Hid.mk' hlt
      clear hF hA hok hcell hbl hlt hil hi3
      generalize dact T (A i) = T2 at *
      generalize A i = ai at *
      obtain ⟨kd, tk, y⟩ := ai
      go_wp2_with (first
        | (refine wpList_load_cells rfl _ _ rfl ⟨b, off + i * 3, none⟩ rfl (fac ⟨kd, tk, y⟩) _ HCW.out Try.underlying33 rfl iFa ?_)
        | fail)
      refine Calls.mono HDO.out ?_
      rintro e w3 ⟨rfl, h3⟩
      have H3 := Hid.mk' h3
      clear h3 HDO HCW
      go_wp2
      exact ⟨⟨i + 1, by have := HLT.out; omega, by have := HLT.out; omega, by go_num, T2, H3.out⟩, by simp [intOf]; have := HLT.out; omega⟩
    · have HFF := Hid.mk' hF
      have HAW := Hid.mk' (awake_list hF.fl.fr)
      clear hF
      have hcp := HCP.out
      rcases (by omega : ¬ (i : Int) < (l : Int)) with h1
      clear hcp
      all_goals
        clear hlt hil hi3
        go_wp2_with fail
        refine Calls.mono HAW.out ?_
        rintro e w4 ⟨v4, rfl, r4, -, g4⟩
        have H4 := Hid.mk' (HFF.out.then g4)
        have HN4 := Hid.mk' (row_nums r4 HFF.out.fl.fr.ok)
        obtain ⟨q, hq⟩ : ∃ q, q = (awN T).length := ⟨_, rfl⟩
        obtain ⟨va, vc, e4⟩ := own_sl r4
        rw [ints_len, ← hq] at e4
        subst e4
        have HR4 := Hid.mk' r4
        have HQ := Hid.mk' hq
        have HQ8 : Hid (q ≤ 8) := Hid.mk' (by rw [hq]; exact Nat.le_trans (awU_len _ _) HFF.out.fl.fr.ok.n8)
        have hqi : (q : Int) ≤ 8 := by have := HQ8.out; omega
        have hpk := pickr_any H4.out.fl.fr HZ.out
        obtain ⟨K, hK⟩ : ∃ K, K = if (awN T).isEmpty then 0 else pck T z := ⟨_, rfl⟩
        rw [← hK] at hpk
        have HKE := Hid.mk' hK
        have hcase : ((awN T).isEmpty = true ∧ q = 0) ∨ ((awN T).isEmpty = false ∧ 0 < q) := by
          rw [hq]
          cases awN T with
          | nil => exact .inl ⟨rfl, rfl⟩
          | cons a l => exact .inr ⟨rfl, by simp⟩
        clear r4 g4 HAW hq hK
        rcases hcase with ⟨hem, hq0⟩ | ⟨hem, hq0⟩
        case' inl =>
          rw [hem, Bool.not_true] at hpk
          have hqz : ¬ (0 : Int) < (q : Int) := by omega
        case' inr =>
          rw [hem, Bool.not_false] at hpk
          have hqz : (0 : Int) < (q : Int) := by omega
        all_goals
          have HPK := Hid.mk' hpk
          have HEM := Hid.mk' hem
          have HQ0 := Hid.mk' hq0
          clear hpk hem hq0
          go_wp2_with fail
          refine Calls.mono HPK.out ?_
          rintro e w5 ⟨rfl, g5⟩
          have HG5 := Hid.mk' g5
          clear g5 HPK
          go_wp2
          go_loopw [14, 15] (fun fv iv wx => ∃ (j : Nat) (fb : Bool), j ≤ q ∧ iv = .int .i64 j ∧ fv = .bool fb ∧ fb = ((ints (awN T)).take j).any (· == K) ∧ Grow w4 wx) (fun _ iv _ => q - (intOf iv).toNat)
          case atStart => exact ⟨0, false, Nat.zero_le _, rfl, rfl, rfl, HG5.out⟩
          case round =>
            clear HG5
            obtain ⟨j, fb, hjq, rfl, rfl, hfb, hgj⟩ := hrel
            have HGJ := Hid.mk' hgj
            have HFB := Hid.mk' hfb
            clear hgj hfb
            by_cases hj : (j : Int) < (q : Int)
            · first
              | (exfalso; have h9 : q = 0 := HQ0.out; omega)
              | (skip
                 have hjl : j < (ints (awN T)).length := by rw [ints_len]; have := HQ.out; omega
                 obtain ⟨u, hu⟩ : ∃ u, u = (ints (awN T)).getD j 0 := ⟨_, rfl⟩
                 have hug : (ints (awN T))[j]? = some u := by rw [hu, List.getD_eq_getElem?_getD, List.getElem?_eq_getElem hjl]; rfl
                 obtain ⟨b4, c4, e4, hcell⟩ := row_cell (e := 3) (L := numv (ints (awN T))) (by rw [show (numv (ints (awN T))).length = (ints (awN T)).length from List.length_map ..]; exact HR4.out) (by rw [show (numv (ints (awN T))).length = (ints (awN T)).length from List.length_map ..]; omega)
                 simp only [Value.slice.injEq] at e4
                 obtain ⟨rfl, -, rfl⟩ := e4
                 have HCJ := Hid.mk' (hcell j (.int .i64 u) (by unfold numv; rw [List.getElem?_map, hug]; rfl))
                 have hie : (awN T).isEmpty = false := by
                   first
                     | exact HEM.out
                     | (exfalso; have := HQ0.out; omega)
                 have HPA : Hid (∀ wz, Grow w4 wz → Calls Try.prog 14 #[ptr g, .int .i64 (j : Int)] wz fun e w' => e = .returned (.tuple #[.int .i64 u, .bool true]) ∧ Grow wz w') := fun wz hz => by
                   have := pickr_any (i := (j : Int)) (H4.out.then hz).fl.fr (by unfold i64; omega)
                   rw [hie, if_neg (by decide), pck_at (i := j) (by rw [← HQ.out]; exact Int.emod_eq_of_lt (by omega) hj), ← hu] at this
                   exact this
                 have HPB : Hid (∀ wz, Grow w4 wz → Calls Try.prog 14 #[ptr g, .int .i64 ((j : Int) - (q : Int))] wz fun e w' => e = .returned (.tuple #[.int .i64 u, .bool true]) ∧ Grow wz w') := fun wz hz => by
                   have := pickr_any (i := (j : Int) - (q : Int)) (H4.out.then hz).fl.fr (by unfold i64; omega)
                   rw [hie, if_neg (by decide), pck_at (i := j) (by rw [← HQ.out, Int.sub_emod_right]; exact Int.emod_eq_of_lt (by omega) hj), ← hu] at this
                   exact this
                 have HFN : Hid (∀ b : Bool, (fb || (u == K)) = b → b = ((ints (awN T)).take (j + 1)).any (· == K)) := fun b hb => by
                   have h3 := List.getElem?_eq_some_iff.1 hug
                   rw [List.take_succ_eq_append_getElem h3.1, List.any_append, ← HFB.out, h3.2, ← hb]
                   simp
                 have cj := grow_cell HGJ.out HCJ.out
                 have huu : (u != u) = false := by simp
                 clear hjl hu hug hcell hie hjq
                 cases fb with
                 | true =>
                   have HF2 := Hid.mk' (HFN.out true (by simp))
                   clear HFN HFB
                   go_wp2_with fail
                   refine Calls.mono (HPA.out _ HGJ.out) ?_
                   rintro e w6 ⟨rfl, g6⟩
                   have HG6 := Hid.mk' (HGJ.out.trans g6)
                   have HPB6 := Hid.mk' (HPB.out _ HG6.out)
                   clear g6 cj
                   go_wp2_with fail
                   refine Calls.mono HPB6.out ?_
                   rintro e w7 ⟨rfl, g7⟩
                   have HG7 := Hid.mk' (HG6.out.trans g7)
                   have cj := grow_cell HG7.out HCJ.out
                   clear g7 HPB6
                   go_wp2
                   exact ⟨⟨j + 1, true, by omega, by go_num, rfl, HF2.out, HG7.out⟩, by simp [intOf]; omega⟩
                 | false =>
                   have HF2 := Hid.mk' (HFN.out (u == K) (by simp))
                   clear HFN HFB
                   cases huk : (u == K) with
                   | true =>
                     rw [huk] at HF2
                     go_wp2_with fail
                     refine Calls.mono (HPA.out _ HGJ.out) ?_
                     rintro e w6 ⟨rfl, g6⟩
                     have HG6 := Hid.mk' (HGJ.out.trans g6)
                     have HPB6 := Hid.mk' (HPB.out _ HG6.out)
                     clear g6 cj
                     go_wp2_with fail
                     refine Calls.mono HPB6.out ?_
                     rintro e w7 ⟨rfl, g7⟩
                     have HG7 := Hid.mk' (HG6.out.trans g7)
                     have cj := grow_cell HG7.out HCJ.out
                     clear g7 HPB6
                     go_wp2
                     exact ⟨⟨j + 1, true, by omega, by go_num, rfl, HF2.out, HG7.out⟩, by simp [intOf]; omega⟩
                   | false =>
                     rw [huk] at HF2
                     go_wp2_with fail
                     refine Calls.mono (HPA.out _ HGJ.out) ?_
                     rintro e w6 ⟨rfl, g6⟩
                     have HG6 := Hid.mk' (HGJ.out.trans g6)
                     have HPB6 := Hid.mk' (HPB.out _ HG6.out)
                     clear g6 cj
                     go_wp2_with fail
                     refine Calls.mono HPB6.out ?_
                     rintro e w7 ⟨rfl, g7⟩
                     have HG7 := Hid.mk' (HG6.out.trans g7)
                     have cj := grow_cell HG7.out HCJ.out
                     clear g7 HPB6
                     go_wp2
                     exact ⟨⟨j + 1, false, by omega, by go_num, rfl, HF2.out, HG7.out⟩, by simp [intOf]; omega⟩)
            · have hje : j = q := by omega
              have hfe : fb = !(awN T).isEmpty := by
                rw [HFB.out, List.take_of_length_le (by rw [ints_len]; have := HQ.out; omega)]
                cases hem : (awN T).isEmpty with
                | true =>
                  rw [List.isEmpty_iff.1 hem]; rfl
                | false =>
                  rw [List.any_eq_true.2 ⟨K, by rw [HKE.out, hem, if_neg (by decide)]; exact pck_mem hem z, by simp⟩]
                  rfl
              rw [HEM.out] at hfe
              simp only [Bool.not_true, Bool.not_false] at hfe
              subst hfe
              have H5 := Hid.mk' (H4.out.then HGJ.out)
              have HAW := Hid.mk' (awake_list H5.out.fl.fr)
              have HNV := Hid.mk' (HN4.out.grow HGJ.out)
              clear hje hjq HFB
              go_wp2_with fail
              refine Calls.mono HAW.out ?_
              rintro e w8 ⟨v8, rfl, r8, -, g8⟩
              have hsm := sameints_any (row_nums r8 H5.out.fl.fr.ok) (HNV.out.grow g8)
              rw [decide_eq_true rfl] at hsm
              have HSM := Hid.mk' hsm
              have HG8 := Hid.mk' (H5.out.fl.grow.trans g8)
              clear r8 g8 hsm
              go_wp2_with fail
              first
                | (have e9 : q = 0 := HQ0.out
                   rw [e9] at HSM)
                | skip
              refine Calls.mono HSM.out ?_
              rintro e w9 ⟨rfl, g9⟩
              have HG9 := Hid.mk' (HG8.out.trans g9)
              have HAK := Hid.mk' (awake_any w9)
              clear g9 HSM
              go_wp2_with fail
              refine Calls.mono HAK.out ?_
              rintro e w10 ⟨rfl, g10⟩
              go_wp2
              go_ret
              exact ⟨rfl, (HG9.out.trans g10).below (Nat.le_refl _) (fun _ _ h => h)⟩
end Go.Proofs.Ytidblaepklgkcaa
