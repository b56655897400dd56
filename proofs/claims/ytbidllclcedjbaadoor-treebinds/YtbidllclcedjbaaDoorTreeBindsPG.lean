/- TreeBinds: the walk. -/
import Derived.Test.YtbidllclcedjbaaDoorTrCkAllG
import Derived.Test.YtbidllclcedjbaaDoorTreeDigestsPG
namespace Go.Proofs.YtbidllclcedjbaaDoor
open Go.RowKit

/-- What an operation on a log leaves of all that was there ahead of the log. -/
theorem LgOTo.on {B w w' : World} {own : Owner} {lv : Value} {P : List Pr} (h : LgOTo w own lv P w') (hg : Grow B w) (hn : ∀ b, own b ≠ .none → B.heap.size ≤ b) : Grow B w' ∧ ∃ own', LgO w' own' lv P ∧ ∀ b, own' b ≠ .none → B.heap.size ≤ b := by
  obtain ⟨own', q1, q2, q3⟩ := h.ex
  refine ⟨hg.then h.but (fun i hi e => absurd (hn i e) (by omega)), own', q3, fun b hb => ?_⟩
  by_cases hq : own' b = own b
  · exact hn b (by rw [← hq]; exact hb)
  · exact Nat.le_trans hg.size (q2 b hq)
theorem inp_inj {x : Int} {a b : List Nat} (h : inp x a = inp x b) : a = b := by
  unfold inp at h
  exact List.append_cancel_left h
/-- Two paths that are taken are one, or there is a clash. -/
theorem two_paths {p : Pn} {x : Int} {a b : List Bk} {root : List Nat} (ha : Fits p x a) (hb : Fits p x b) (ga : Good p (p.path x) a root) (gb : Good p (p.path x) b root) (hne : a ≠ b) {P Q R : List Pr} :
    ∃ i j, i < j ∧ j < (P ++ noteB (p.path x) a a.length ++ Q ++ noteB (p.path x) b b.length ++ R).length ∧ ck (P ++ noteB (p.path x) a a.length ++ Q ++ noteB (p.path x) b b.length ++ R) i j = true := by
  have hl : a.length = b.length := by rw [ha.2.1, hb.2.1]
  rcases binds (m := a.length) (A := fun i => a.getD i []) (B := fun i => b.getD i []) (D := fun i y => bd ((p.path x).getD i 0) y) (p := fun i => (p.par ((p.path x).getD i 0)).at'.toNat) (root := root) (fun i hi => ga i hi) (fun i hi => by have := gb i (by omega); rw [← hl] at this; exact this) with h | ⟨i, hi, h1, h2⟩
  · exact absurd (eq_of_getD2 hl h) hne
  · have e1 : (P ++ noteB (p.path x) a a.length ++ Q ++ noteB (p.path x) b b.length ++ R)[P.length + i]? = some (inp ((p.path x).getD i 0) (a.getD i []), bd ((p.path x).getD i 0) (a.getD i [])) := by
      rw [List.append_assoc, List.append_assoc, List.append_assoc, List.getElem?_append_right (by omega), List.getElem?_append_left (by rw [noteB_len]; omega), show P.length + i - P.length = i by omega, noteB_get hi]
    have e2 : (P ++ noteB (p.path x) a a.length ++ Q ++ noteB (p.path x) b b.length ++ R)[P.length + a.length + Q.length + i]? = some (inp ((p.path x).getD i 0) (b.getD i []), bd ((p.path x).getD i 0) (b.getD i [])) := by
      rw [List.append_assoc, List.getElem?_append_right (by simp [noteB_len]; omega), List.getElem?_append_left (by simp [noteB_len]; omega), show P.length + a.length + Q.length + i - (P ++ noteB (p.path x) a a.length ++ Q).length = i by (simp [noteB_len]; omega), noteB_get (by omega)]
    refine ⟨P.length + i, P.length + a.length + Q.length + i, by omega, by simp [noteB_len]; omega, ?_⟩
    unfold ck
    refine decide_eq_true ?_
    rw [List.getD_eq_getElem?_getD, List.getD_eq_getElem?_getD, e1, e2]
    exact ⟨h2, fun e => h1 (inp_inj e)⟩
set_option maxRecDepth 100000 in
set_option maxHeartbeats 16000000 in
theorem treeBinds_walk (a0 a1 : Int) (v2 : Value) (z2 : List (List Nat)) (v3 : Value) (z3 : List (List Nat)) (D4 : List Nat) (w : World) (hk : Kw w) (hh : Hw w) (_h0 : (Lit.int .i64 a0).wf = true) (_h1 : (Lit.int .i64 a1).wf = true)
    (h2 : (Ps w v2 z2 ∧ z2.length * 24 ≤ 140737488351232 ∧ ∀ x ∈ z2, x.length ≤ 140737488351232) ∧ ∀ ao n c, v2 = .slice ao n c → n ≤ c) (h3 : (Ps w v3 z3 ∧ z3.length * 24 ≤ 140737488351232 ∧ ∀ x ∈ z3, x.length ≤ 140737488351232) ∧ ∀ ao n c, v3 = .slice ao n c → n ≤ c) (h4 : wf32 D4) :
    Calls Tryd.prog 8 #[.int .i64 a0, .int .i64 a1, v2, v3, dkey D4] w fun e w' => e = .returned (.bool true) ∧ Below w.heap.size w w' := by
  obtain ⟨ao2, cap2, hv2, -⟩ := h2.1.1.gen
  obtain ⟨ao3, cap3, hv3, -⟩ := h3.1.1.gen
  obtain ⟨n2, hn2⟩ : ∃ n, n = z2.length := ⟨_, rfl⟩
  obtain ⟨n3, hn3⟩ : ∃ n, n = z3.length := ⟨_, rfl⟩
  rw [← hn2] at hv2
  rw [← hn3] at hv3
  obtain ⟨W, hW⟩ : ∃ W, W = w.alloc (.cells (u8s D4).toArray 26) := ⟨_, rfl⟩
  obtain ⟨g9, hg9⟩ : ∃ g, g = w.heap.size := ⟨_, rfl⟩
  have hgW : Grow w W := by rw [hW]; exact (But.refl _ w).alloc _
  have hb9 : Blk W g9 26 (u8s D4) := by rw [hW]; exact Blk.new hg9.symm
  obtain ⟨M, hM⟩ : ∃ M, M = (u8s D4).toArray := ⟨_, rfl⟩
  rw [show dkey D4 = .agg M by rw [hM]; rfl]
  rw [← hM] at hW
  have HMM := Hid.mk' hM
  have HWW := Hid.mk' hW
  have HG9 := Hid.mk' hg9
  have HGW := Hid.mk' hgW
  have HB9 := Hid.mk' hb9
  have HK := Hid.mk' hk
  have HH := Hid.mk' hh
  have HP2 := Hid.mk' h2.1.1
  have HP3 := Hid.mk' h3.1.1
  have HC2 := Hid.mk' h2.2
  have HC3 := Hid.mk' h3.2
  have HN2 := Hid.mk' hn2
  have HN3 := Hid.mk' hn3
  have H4 := Hid.mk' h4
  have hnb2 : n2 ≤ 140737488351232 := by omega
  have hnb3 : n3 ≤ 140737488351232 := by omega
  subst hv2 hv3
  clear hk hh h2 h3 h4 hn2 hn3 _h0 _h1 hW hM hg9 hgW hb9
  have HAW : Hid (∀ w', Grow w w' → Calls Tryd.prog 9 #[] w' fun e w'' => e = .returned (.bool true) ∧ Grow w' w'') := fun w' k => awaket_any (HK.out.but k (fun h => h)) (HH.out.but k (fun h => h))
  by_cases hl : 9 < n2 ∨ 9 < n3
  · rcases (by omega : 9 < n2 ∨ (¬ 9 < n2 ∧ 9 < n3)) with h | h
    case' inr => obtain ⟨h, h'⟩ := h
    all_goals
      clear hl
      go_enter Tryd.func8, Tryd.ntmps8
      go_upto_region 1 with fail
      rw [← HWW.out]
      go_wp2_with fail
      refine Calls.mono (HAW.out W HGW.out) ?_
      rintro e w2 ⟨rfl, hg2⟩
      go_wp2
      go_ret
      exact ⟨rfl, (HGW.out.trans hg2).below (Nat.le_refl _) (fun _ _ h => h)⟩
  · have hl2 : n2 ≤ 9 := by omega
    have hl3 : n3 ≤ 9 := by omega
    clear hl
    have HMD := Hid.mk' (made_tr (w := W) (x := a0) (Bs.nil W) (by decide))
    go_enter Tryd.func8, Tryd.ntmps8
    go_upto_region 3 with fail
    rw [← HWW.out, ← HG9.out]
    go_wp2_with fail
    refine Calls.mono HMD.out ?_
    obtain ⟨n, hn⟩ : ∃ n, n = 1 + (a0 % 300).toNat := ⟨_, rfl⟩
    rw [← hn]
    have hn1 : 1 ≤ n := by omega
    have hn4 : n ≤ 4096 := by omega
    rintro e w1 ⟨⟨pv, v, G, T, rfl, hop, hnb⟩, hg1⟩
    obtain ⟨P, hP⟩ : ∃ P, P = plan n 4 := ⟨_, rfl⟩
    rw [← hP] at hop ⊢
    have HPM : Hid (Mad P) := by show Mad P; rw [hP]; exact plan_mad hn1 hn4
    have hnums : Nums w1 pv P.levels := by rw [hP] at hop ⊢; exact (Pm.of hn1 hn4 hop).nums
    obtain ⟨va, vc, rfl⟩ := hop.sl
    obtain ⟨la, lc, rfl⟩ := hnb.len
    have HNU := Hid.mk' hnums
    have HG1 := Hid.mk' (HGW.out.trans hg1)
    have HB91 := Hid.mk' (HB9.out.but hg1 (fun h => h))
    generalize P.levels.length = ln at *
    clear hop hg1 HMD hP hnb hn hn1 hn4 hnums
    go_upto_region 4 with (first
      | (refine wpList_runH rfl (exec_allocF rfl (zPl _)) ?_)
      | (refine wpList_store_at rfl _ _ _ rfl w1.heap.size 0 (pcells P (.slice va ln vc)) rfl (by exact rfl) 44 [] (pcells Pn.zero noS) [] (var_new w1) rfl rfl iPl (pcells_one _ rfl) ?_; intro w2 hb2 hbut2; rw [List.nil_append, List.append_nil] at hb2)
      | fail)
    obtain ⟨g11, hg11⟩ : ∃ g, g = w1.heap.size := ⟨_, rfl⟩
    have hg2 := var_grow hbut2
    rw [← hg11] at hb2 ⊢
    have HBP := Hid.mk' hb2
    have HG2 := Hid.mk' (HG1.out.trans hg2)
    have HB92 := Hid.mk' (HB91.out.but hg2 (fun h => h))
    have HNU2 := Hid.mk' (HNU.out.grow hg2)
    have HNW := Hid.mk' (new_any (w := w2) (fun _ => .none) (fun _ _ => rfl))
    clear hb2 hbut2 hg2 hg11 HB91 HNU HB9
    go_wp2_with fail
    refine Calls.mono HNW.out ?_
    rintro e w3 ⟨gl, rfl, hgl, hg3, hl3'⟩
    have hnew := own_new hgl
    generalize tagAt (fun _ => Tag.none) gl .log = own3 at *
    have hlo : LgO w3 own3 (.pointer (some ⟨gl, 0, none⟩)) [] := .inr ⟨gl, rfl, hl3'⟩
    have hgo : ∀ (wx w' : World) (ownx : Owner), Grow w2 wx → (∀ b, ownx b ≠ .none → w2.heap.size ≤ b) → But (fun b => ownx b ≠ .none) wx w' → Grow w2 w' := fun wx w' ownx k1 k2 k3 => k1.then k3 (fun i hi e => absurd (k2 i e) (by omega))
    have hck1 := chk_all (x := a1) hlo HPM.out (HNU2.out.grow hg3) (fun w' k => by
      have kk := HG2.out.trans (hgo w3 w' own3 hg3 hnew k)
      exact ⟨HK.out.but kk (fun h => h), HH.out.but kk (fun h => h), HP2.out.below kk⟩) HC2.out (by rw [← HN2.out]; omega) H4.out (by decide)
    rw [show dkey D4 = .agg M by rw [HMM.out]; rfl] at hck1
    have HCK1 := Hid.mk' hck1
    have HNEW := Hid.mk' hnew
    have HG3 := Hid.mk' hg3
    have HGO := Hid.mk' hgo
    have HBP3 := Hid.mk' (HBP.out.but hg3 (fun h => h))
    have HB93 := Hid.mk' (HB92.out.but hg3 (fun h => h))
    clear hnew hlo hgo hck1 hgl hg3 hl3' HNW
    go_wp2_with (first
      | (refine wpList_load_cells rfl _ _ rfl ⟨g11, 0, none⟩ rfl (pcells P (.slice va ln vc)) _ HBP3.out.pl Tryd.underlying44 rfl iPl ?_)
      | (refine wpList_load_u8s ukt i32 rfl _ rfl g9 D4 H4.out.1 rfl HB93.out ?_)
      | fail)
    rw [← HMM.out]
    refine Calls.mono HCK1.out ?_
    rintro e w4 ⟨r1, rfl, hr1, hto1⟩
    rw [List.nil_append] at hto1
    obtain ⟨hg4, own4, hlo4, hnew4⟩ := hto1.on HG3.out HNEW.out
    have hq1 := Hq.noteC hr1
    have hsm1 := hr1.small
    have hck2 := chk_all (x := a1) hlo4 HPM.out (HNU2.out.grow hg4) (fun w' k => by
      have kk := HG2.out.trans (HGO.out w4 w' own4 hg4 hnew4 k)
      exact ⟨HK.out.but kk (fun h => h), HH.out.but kk (fun h => h), HP3.out.below kk⟩) HC3.out (by rw [← HN3.out]; omega) H4.out (by have := hq1.2; rw [← HN2.out] at this; omega)
    rw [show dkey D4 = .agg M by rw [HMM.out]; rfl] at hck2
    have HCK2 := Hid.mk' hck2
    have HNEW4 := Hid.mk' hnew4
    have HG4 := Hid.mk' hg4
    have HBP4 := Hid.mk' (HBP.out.but hg4 (fun h => h))
    have HB94 := Hid.mk' (HB92.out.but hg4 (fun h => h))
    have HR1 := Hid.mk' hr1
    have HQ1 := Hid.mk' hq1
    clear hck2 hnew4 hg4 hlo4 hto1 hr1 hq1 HCK1
    go_wp2_with (first
      | (refine wpList_load_cells rfl _ _ rfl ⟨g11, 0, none⟩ rfl (pcells P (.slice va ln vc)) _ HBP4.out.pl Tryd.underlying44 rfl iPl ?_)
      | (refine wpList_load_u8s ukt i32 rfl _ rfl g9 D4 H4.out.1 rfl HB94.out ?_)
      | fail)
    rw [← HMM.out]
    refine Calls.mono HCK2.out ?_
    rintro e w5 ⟨r2, rfl, hr2, hto2⟩
    obtain ⟨hg5, own5, hlo5, hnew5⟩ := hto2.on HG4.out HNEW4.out
    have hsm2 := hr2.small
    have HR2 := Hid.mk' hr2
    have HQ2 := Hid.mk' (Hq.noteC hr2)
    have HG5 := Hid.mk' (HG2.out.trans hg5)
    have HLO5 := Hid.mk' hlo5
    have HSA := Hid.mk' (sameall_any (HP2.out.below HG5.out) (HP3.out.below HG5.out) (by rw [← HN2.out]; omega) (by rw [← HN3.out]; omega))
    clear hr2 hto2 hg5 hlo5 hnew5 HCK2 HBP3 HB93 HBP4 HB94 HBP HB92
    by_cases hr : r1 ≠ 0 ∨ r2 ≠ 0
    · have hrb : ((r1 != 0) = true) ∨ ((r1 != 0) = false ∧ (r2 != 0) = true) := by
        by_cases h1 : r1 = 0
        · right
          rcases hr with h | h
          · exact absurd h1 h
          · exact ⟨by simpa using h1, by simpa using h⟩
        · left; simpa using h1
      clear hr
      rcases hrb with h | h
      case' inr => obtain ⟨h, h'⟩ := h
      all_goals
        go_wp2_with fail
        refine Calls.mono (HAW.out w5 HG5.out) ?_
        rintro e w6 ⟨rfl, hg6⟩
        go_wp2
        go_ret
        exact ⟨rfl, (HG5.out.trans hg6).below (Nat.le_refl _) (fun _ _ h => h)⟩
    · obtain rfl : r1 = 0 := by omega
      obtain rfl : r2 = 0 := by omega
      clear hr hsm1 hsm2
      go_wp2_with fail
      refine Calls.mono HSA.out ?_
      rintro e w6 ⟨rfl, hg6⟩
      have HG6 := Hid.mk' (HG5.out.trans hg6)
      have HLO6 := Hid.mk' (HLO5.out.grow hg6)
      clear hg6 HSA HLO5
      by_cases hz : z2 = z3
      · rw [decide_eq_true hz]
        clear hz
        go_wp2_with fail
        refine Calls.mono (HAW.out w6 HG6.out) ?_
        rintro e w7 ⟨rfl, hg7⟩
        go_wp2
        go_ret
        exact ⟨rfl, (HG6.out.trans hg7).below (Nat.le_refl _) (fun _ _ h => h)⟩
      · rw [decide_eq_false hz]
        have HZ : Hid (z2 ≠ z3) := hz
        have hlg6 : Lg w6 own5 gl (noteC P a1 z2 0 ++ noteC P a1 z3 0) [] [] := by
          rcases HLO6.out with ⟨e, _⟩ | ⟨g, e, h⟩
          · cases e
          · have e2 : gl = g := by simpa using e
            rw [e2]; exact h
        have hqq : Hq (noteC P a1 z2 0 ++ noteC P a1 z3 0) := HQ1.out.1.app HQ2.out.1
        have hex := two_paths (P := []) (Q := []) (R := []) HR1.out.ok.1 HR2.out.ok.1 HR1.out.ok.2 HR2.out.ok.2 HZ.out
        rw [List.nil_append, List.append_nil, List.append_nil] at hex
        have hpp : noteC P a1 z2 0 ++ noteC P a1 z3 0 = noteB (P.path a1) z2 z2.length ++ noteB (P.path a1) z3 z3.length := by unfold noteC; rw [if_pos rfl, if_pos rfl]
        rw [← hpp] at hex
        generalize noteC P a1 z2 0 ++ noteC P a1 z3 0 = PP at *
        have HCL := Hid.mk' (clash_any hlg6 (fun q hq => by have := (hqq q hq).2; omega))
        have HEX := Hid.mk' hex
        have HQQ := Hid.mk' hqq
        clear hlg6 hqq hex hpp hz HLO6
        go_wp2_with fail
        refine Calls.mono HCL.out ?_
        rintro e w7 ⟨hg7, ⟨rfl, hno⟩ | ⟨i, j, va', vb', rfl, hF, hoa, hob⟩⟩
        · obtain ⟨i, j, hij, hjl, hck⟩ := HEX.out
          have := hno j hjl i hij
          rw [hck] at this
          cases this
        · obtain ⟨hij, hjl, hck, -, -⟩ := hF
          unfold ck at hck
          obtain ⟨hc1, hc2⟩ := of_decide_eq_true hck
          have hmi : PP.getD i p0 ∈ PP := by simp [List.getD, show i < PP.length by omega]
          have hmj : PP.getD j p0 ∈ PP := by simp [List.getD, show j < PP.length by omega]
          have q1 := HQQ.out _ hmi
          have q2 := HQQ.out _ hmj
          obtain ⟨xs, hxs⟩ : ∃ xs, xs = (PP.getD i p0).1 := ⟨_, rfl⟩
          obtain ⟨ys, hys⟩ : ∃ ys, ys = (PP.getD j p0).1 := ⟨_, rfl⟩
          obtain ⟨D, hD⟩ : ∃ D, D = (PP.getD i p0).2 := ⟨_, rfl⟩
          rw [← hc1] at q2
          rw [← hxs, ← hD] at q1
          rw [← hys, ← hD] at q2
          rw [← hxs] at hoa hc2
          rw [← hys] at hob hc2
          obtain ⟨N, hN⟩ : ∃ N, N = (u8s D).toArray := ⟨_, rfl⟩
          have HD : Hid (wf32 D) := by show wf32 _; rw [q1.1]; exact digest_wf _
          have HG7 := Hid.mk' (HG6.out.trans hg7)
          have HOA : Hid (∀ w', Grow w7 w' → Calls Tryd.prog 30 #[va'] w' fun e w'' => e = .returned (.agg N) ∧ Grow w' w'') := fun w' k => by
            have := refOf_any (hoa.bs.but k (fun _ _ _ h => h)) (by omega)
            rw [← q1.1, ← hN] at this
            exact this
          have HOB : Hid (∀ w', Grow w7 w' → Calls Tryd.prog 30 #[vb'] w' fun e w'' => e = .returned (.agg N) ∧ Grow w' w'') := fun w' k => by
            have := refOf_any (hob.bs.but k (fun _ _ _ h => h)) (by omega)
            rw [← q2.1, ← hN] at this
            exact this
          have HSM : Hid (∀ w', Grow w7 w' → Calls Tryd.prog 31 #[va', vb'] w' fun e w'' => e = .returned (.bool false) ∧ Grow w' w'') := fun w' k => by
            have := same_grow (hoa.bs.but k (fun _ _ _ h => h)) (hob.bs.but k (fun _ _ _ h => h))
            rw [decide_eq_false hc2] at this
            exact this
          have HEQ : Hid (∀ w', (Op.equalIn 10000 26 (.agg N) (.agg N)).run Tryd.prog w' = .ok true w') := fun w' => by
            rw [hN]; exact equal_same D HD.out.1 w'
          obtain ⟨xa, xn, xc, rfl⟩ := hoa.bs.sl
          obtain ⟨ya, yn, yc, rfl⟩ := hob.bs.sl
          clear hij hjl hck hc1 hc2 hmi hmj q1 q2 hxs hys hD hN hoa hob hg7 HCL HEX HQQ
          go_wp2_with fail
          refine Calls.mono (HOA.out w7 (But.refl _ _)) ?_
          rintro e w8 ⟨rfl, hg8⟩
          have HG8 := Hid.mk' hg8
          clear hg8
          go_wp2_with fail
          refine Calls.mono (HOB.out w8 HG8.out) ?_
          rintro e w9 ⟨rfl, hg9'⟩
          have HG9' := Hid.mk' (HG8.out.trans hg9')
          clear hg9'
          go_wp2_with (first
            | (refine wpList_runG rfl (exec_eqT rfl rfl rfl (by kernel_rfl) (HEQ.out _)) ?_)
            | fail)
          refine Calls.mono (HSM.out w9 HG9'.out) ?_
          rintro e wa ⟨rfl, hga⟩
          have HGA := Hid.mk' (HG7.out.trans (HG9'.out.trans hga))
          clear hga
          go_wp2_with fail
          refine Calls.mono (HAW.out wa HGA.out) ?_
          rintro e wb ⟨rfl, hgb⟩
          go_wp2
          go_ret
          exact ⟨rfl, (HGA.out.trans hgb).below (Nat.le_refl _) (fun _ _ h => h)⟩
end Go.Proofs.YtbidllclcedjbaaDoor
