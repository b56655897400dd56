/- The path of any page is the document's, and ends at the top: for any pages, any budget, any page. No condition. -/
import Derived.Test.YtidblaepklgkcaaPlRPath
import Derived.ProofKit
import Derived.OpenShut
import Derived.ChangeOld
import Derived.Below
namespace Go.Proofs.Ytidblaepklgkcaa
open Go.ChangeShapes Go.WideShapes Go.ChangeAt Go.RowKit

/-- What a Path tells: a list and a number. -/
def TellTo (w : World) (l : List Int) (er : Int) (e : Ending) (w' : World) : Prop := ∃ (a : Option Addr) (n c : Nat), e = .returned (.tuple #[.slice a n c, .int .i64 er]) ∧ Nums w' (.slice a n c) l ∧ Grow w w'
def ptL (p : Pn) (x : Int) : List Int := if p.has x then p.path x else []
def ptE (p : Pn) (x : Int) : Int := if p.has x then 0 else 1
theorem path_i64 {p : Pn} (hm : Mad p) {x : Int} (h : p.has x = true) : (∀ y ∈ p.path x, -9223372036854775808 ≤ y ∧ y ≤ 9223372036854775807) ∧ (p.path x).length ≤ 4 := by
  have hpa := hm.path h
  have := hm.pg
  have := hm.hd
  have := hm.c1
  have := hm.nd
  have := hm.sum
  refine ⟨fun y hy => ?_, by have := hpa.2.len; have := hm.len; omega⟩
  have h5 := hpa.2.ge y hy
  omega
theorem tell_of {w : World} {p : Pn} (hm : Mad p) {x : Int} (f : FuncId) (args : Array Value) (h1 : p.has x = true → Calls Try.prog f args w (PathTo w (p.path x))) (h2 : p.has x = false → Calls Try.prog f args w fun e w' => e = .returned (.tuple #[noS, .int .i64 1]) ∧ Grow w w') : Calls Try.prog f args w (TellTo w (ptL p x) (ptE p x)) := by
  unfold ptL ptE
  cases h : p.has x with
  | true =>
    refine Calls.mono (h1 h) ?_
    rintro e w' ⟨v, h3, h4, h5⟩
    have hi := path_i64 hm h
    obtain ⟨a, c, hv⟩ := h4.sl
    subst hv
    rw [if_pos rfl, if_pos rfl]
    exact ⟨a, _, c, h3, h4.nums hi.1 (by have := hi.2; omega), h5⟩
  | false =>
    refine Calls.mono (h2 h) ?_
    rintro e w' ⟨h3, h5⟩
    rw [if_neg (by decide), if_neg (by decide)]
    exact ⟨none, 0, 0, h3, ⟨nofun, by decide, .inl ⟨rfl, .inl rfl⟩⟩, h5⟩
theorem path_tell (w : World) {p : Pn} (hm : Mad p) (v : Value) (x : Int) (hv : Nums w v p.levels) : Calls Try.prog 25 #[pval p v, .int .i64 x] w (TellTo w (ptL p x) (ptE p x)) :=
  tell_of hm _ _ (fun h => path_any w p v x h hv (by have := hm.len; omega)) (fun h => path_not w p v x h)
theorem rpath_tell (w : World) {p : Pn} (hm : Mad p) (v : Value) (x : Int) (hv : Nums w v p.levels) : Calls Try.prog 26 #[pval p v, .int .i64 x] w (TellTo w (ptL p x) (ptE p x)) :=
  tell_of hm _ _ (fun h => rpath_any w p v x hm h hv) (fun h => rpath_not w p v x h)
set_option maxRecDepth 100000 in
set_option maxHeartbeats 4000000 in
theorem planPaths_walk (x y z : Int) (w : World) (_ : (Lit.int .i64 x).wf = true) (_ : (Lit.int .i64 y).wf = true) (_ : (Lit.int .i64 z).wf = true) : Calls Try.prog 6 #[.int .i64 x, .int .i64 y, .int .i64 z] w fun e w' => e = .returned (.bool true) ∧ Below w.heap.size w w' := by
  have HMD := Hid.mk' (made_any w x y)
  go_enter Try.func6, Try.ntmps6
  go_wp2_with fail
  refine Calls.mono HMD.out ?_
  rintro e w1 ⟨n, b, v, hn, hb, rfl, ho, hg⟩
  have hx1 := Int.emod_nonneg x (b := 4096) (by decide)
  have hx2 := Int.emod_lt_of_pos x (b := 4096) (by decide)
  have n1 : 1 ≤ n := by omega
  have n2 : n ≤ 4096 := by omega
  have HPM := Hid.mk' (Pm.of n1 n2 ho)
  have HMA := Hid.mk' (plan_mad (b := b) n1 n2)
  obtain ⟨va, vc, hve⟩ := ho.sl
  obtain ⟨P, hP⟩ : ∃ P, P = plan n b := ⟨_, rfl⟩
  have HPN : Hid (∀ wz, Pm wz n b v → Nums wz v P.levels) := fun wz h => by rw [hP]; exact h.nums
  rw [← hP] at hve HMA ⊢
  have HG1 := Hid.mk' hg
  generalize hln : P.levels.length = ln at hve
  have HLN := Hid.mk' hln
  subst hve
  clear hg ho hn hb hx1 hx2 n1 n2 hP HMD hln
  go_upto_region 2 with (first
    | (refine wpList_runH rfl (exec_allocF rfl (zPl _)) ?_)
    | (refine wpList_store_at rfl _ _ _ rfl w1.heap.size 0 (pcells P (.slice va ln vc)) rfl rfl 42 [] (pcells Pn.zero noS) [] (var_new w1) rfl rfl iPl (pcells_one _ rfl) ?_; intro w2 hb2 hbut2; rw [List.nil_append, List.append_nil] at hb2)
    | fail)
  obtain ⟨g, hgg⟩ : ∃ g, g = w1.heap.size := ⟨_, rfl⟩
  have hg2 := var_grow hbut2
  rw [← hgg] at hb2 ⊢
  have HBX : Hid (∀ wz, Grow w2 wz → Blk wz g 42 (pcells P (.slice va ln vc))) := fun wz kk => hb2.but kk (fun h => h)
  have HB2 := Hid.mk' hb2
  have HNX : Hid (∀ wz, Grow w2 wz → Nums wz (.slice va ln vc) P.levels) := fun wz kk => HPN.out _ ((HPM.out.grow hg2).grow kk)
  have HG2 := Hid.mk' (HG1.out.trans hg2)
  have HP1 := Hid.mk' (path_tell w2 HMA.out (.slice va ln vc) z (HNX.out _ (But.refl _ _)))
  have HP2 : Hid (∀ wz, Grow w2 wz → Calls Try.prog 26 #[pval P (.slice va ln vc), .int .i64 z] wz (TellTo wz (ptL P z) (ptE P z))) := fun wz kk => rpath_tell wz HMA.out (.slice va ln vc) z (HNX.out _ kk)
  generalize ptL P z = l1 at HP1 HP2
  generalize ptE P z = e1 at HP1 HP2
  clear hgg hb2 hbut2 hg2 HPM HG1 HPN
  go_wp2_with (first
    | (refine wpList_load_cells rfl _ _ rfl ⟨g, 0, none⟩ rfl (pcells P (.slice va ln vc)) _ HB2.out.pl Try.underlying42 rfl iPl ?_)
    | fail)
  refine Calls.mono HP1.out ?_
  rintro e w3 ⟨a3, n3, c3, rfl, hn3, hg3⟩
  have HN3 := Hid.mk' hn3
  have HG3 := Hid.mk' hg3
  have HB3 := Hid.mk' (HBX.out _ hg3)
  clear hn3 hg3 HP1 HB2
  go_wp2_with (first
    | (refine wpList_load_cells rfl _ _ rfl ⟨g, 0, none⟩ rfl (pcells P (.slice va ln vc)) _ HB3.out.pl Try.underlying42 rfl iPl ?_)
    | fail)
  refine Calls.mono (HP2.out _ HG3.out) ?_
  rintro e w4 ⟨a4, n4, c4, rfl, hn4, hg4⟩
  have hsm := sameints_any (HN3.out.grow hg4) hn4
  rw [decide_eq_true rfl] at hsm
  have HSM := Hid.mk' hsm
  have HG4 := Hid.mk' (HG3.out.trans hg4)
  clear hn4 hg4 hsm HP2 HB3 HN3 HG3
  have hee : (e1 != e1) = false := by simp
  go_wp2_with fail
  refine Calls.mono HSM.out ?_
  rintro e w5 ⟨rfl, hg5⟩
  have HG5 := Hid.mk' (HG4.out.trans hg5)
  clear hg5 HSM HG4
  have hpg := HMA.out.pg
  obtain ⟨pg, hpe⟩ : ∃ q, q = P.pages := ⟨_, rfl⟩
  have HPK : Hid (∀ wz, Calls Try.prog 9 #[.int .i64 z, .int .i64 pg] wz fun e w' => e = .returned (.int .i64 (z % pg)) ∧ Grow wz w') := fun wz => Calls.mono (pick_any z pg wz (by omega) (by omega)) (fun e w' h => ⟨h.1, by rw [h.2]; exact But.refl _ _⟩)
  have HC0 : Hid (∀ wz, Grow w2 wz → wz.cell? ⟨g, 0, none⟩ = some (.int .i64 pg)) := fun wz kk => by rw [hpe]; exact (HBX.out wz kk).cell 0
  obtain ⟨q, hq⟩ : ∃ q, q = z % pg := ⟨_, rfl⟩
  rw [← hq] at HPK
  have hhas : P.has q = true := by
    have h1 := Int.emod_nonneg z (b := pg) (by omega)
    have h2 := Int.emod_lt_of_pos z (b := pg) (by omega)
    unfold Pn.has
    rw [← hpe, hq]
    exact decide_eq_true ⟨h1, h2⟩
  have HP3 : Hid (∀ wz, Grow w2 wz → Calls Try.prog 25 #[pval P (.slice va ln vc), .int .i64 q] wz (TellTo wz (P.path q) 0)) := fun wz kk => by
    have h := path_tell wz HMA.out (.slice va ln vc) q (HNX.out _ kk)
    unfold ptL ptE at h
    rw [hhas, if_pos rfl, if_pos rfl] at h
    exact h
  have hpth := (HMA.out.path hhas).2
  have HPT := Hid.mk' hpth
  have HTE : Hid (P.head - 1 = P.top) := Hid.mk' (by
    have := HMA.out.top
    have := HMA.out.hd
    have := HMA.out.nd
    omega)
  generalize P.path q = PA at HP3 HPT
  clear hpg hpe hq hhas hpth
  go_upto_region 8 with fail
  refine region_chain [([0, 1, 2, 3, 4], 5)] [6, 7, 8, 9, 10] (Grow w2) (Grow w2) (by kernel_rfl) (by kernel_rfl) (fun _ _ h k => h.trans k) (fun _ h => h) (HG5.out.drew) ?_
  intro ι hne X hX
  have d0 : ∀ i, (X i).cell? ⟨g, 0, none⟩ = some (.int .i64 pg) := fun i => HC0.out _ (hX i)
  refine still_val rfl (pval P (.slice va ln vc)) rfl (fun i => exec_ldF (cs := pcells P (.slice va ln vc)) Try.underlying42 rfl iPl (HBX.out _ (hX i)).pl rfl rfl) ?_
  intro K hK; go_simp; refine hK _ ?_; clear hK K
  iterate 3 (refine still_step rfl (fun K hK => ?_); go_simp; refine hK _ ?_; clear hK K)
  refine still_call rfl (.int .i64 q) 9 #[.int .i64 z, .int .i64 pg] rfl (fun i => by kernel_rfl) (fun i => HPK.out _) ?_
  intro K hK; go_simp; refine hK _ ?_; clear hK K
  refine still_nil ?_
  clear d0 hX hne X ι
  refine turn_call rfl rfl (fun v w' => ∃ (a : Option Addr) (n c : Nat), v = .tuple #[.slice a n c, .int .i64 0] ∧ Nums w' (.slice a n c) PA ∧ Grow w2 w') (fun v w' => ∃ (a : Option Addr) (n c : Nat), v = .tuple #[.slice a n c, .int .i64 0] ∧ Nums w' (.slice a n c) PA ∧ Grow w2 w') (fun v w w' h k => by
    obtain ⟨a, n, c, h1, h2, h3⟩ := h
    exact ⟨a, n, c, h1, h2.grow k, h3.trans k⟩) (fun _ _ h => h) (.inr (fun v w h => by
    obtain ⟨a, n, c, h1, h2, h3⟩ := h
    exact h3)) 25 #[pval P (.slice va ln vc), .int .i64 q] (fun _ => by kernel_rfl) (fun wz hk => Calls.mono (HP3.out wz hk) (fun e w' h => by
    obtain ⟨a, n, c, h1, h2, h3⟩ := h
    exact ⟨_, h1, a, n, c, rfl, h2, hk.trans h3⟩)) ?_
  rintro v6 ⟨w6', a6, n6, c6, rfl, hn6', -⟩ Y hY
  go_simp
  refine hY _ ?_
  clear hY Y
  intro ι hne X hX
  iterate 5 (refine still_step rfl (fun K hK => ?_); go_simp; refine hK _ ?_; clear hK K)
  refine still_nil ?_
  clear hX hne X ι hn6' w6'
  rintro w6 ⟨a6', n6', c6', he6, hn6, hg6⟩
  simp only [Value.tuple.injEq, Array.mk.injEq, List.cons.injEq, Value.slice.injEq, and_true] at he6
  obtain ⟨rfl, rfl, rfl⟩ := he6
  have hpl := HPT.out.len
  rw [HLN.out] at hpl
  obtain ⟨b6, o6, k6, e6, -, -, hc6⟩ := hn6.at (by omega)
  simp only [Value.slice.injEq] at e6
  obtain ⟨rfl, hn6l, rfl⟩ := e6
  have hlast : PA.getD ln 0 = P.top := by
    have h1 := HPT.out.last
    rw [List.getLast?_eq_getElem?, hpl, Nat.add_sub_cancel] at h1
    rw [List.getD_eq_getElem?_getD, h1, Option.getD_some]
    exact HTE.out
  have hcl := hc6 ln (by omega)
  rw [hlast] at hcl
  have HCL : Hid (∀ wz, Grow w6 wz → wz.cell? ⟨b6, o6 + ln, none⟩ = some (.int .i64 P.top)) := fun wz kk => grow_cell kk hcl
  have HC3 : Hid (∀ wz, Grow w6 wz → wz.cell? ⟨g, 3, none⟩ = some (.slice va ln vc)) := fun wz kk => (HBX.out _ (hg6.trans kk)).cell 3
  have HLD : Hid (∀ wz, Grow w6 wz → ∀ j u, (pcells P (.slice va ln vc))[j]? = some u → wz.cell? ((⟨g, 0, none⟩ : Addr).add j) = some u) := fun wz kk => (HBX.out _ (hg6.trans kk)).pl
  have hlb : ln ≤ 3 := by have := HMA.out.len; have := HLN.out; omega
  have hlni : (ln : Int) ≤ 3 := by omega
  have hn6e : n6 = ln + 1 := by omega
  have hw1 : IntKind.i64.wrap ((ln : Int) + 1) = (n6 : Int) := by rw [wrapI (by omega) (by omega)]; omega
  have hw2 : IntKind.i64.wrap ((n6 : Int) - 1) = (ln : Int) := by rw [wrapI (by omega) (by omega)]; omega
  have he1 : ((n6 : Int) == (n6 : Int)) = true := by simp
  have hl1 : (ln : Int) < (n6 : Int) := by omega
  have HTP := Hid.mk' (fun wz => top_any wz P (.slice va ln vc))
  have HAW := Hid.mk' (fun w => plawake_any w)
  have HG6 := Hid.mk' hg6
  generalize P.top = tp at HCL HTP
  have htt : (tp == tp) = true := by simp
  clear hpl hc6 hn6l hlast hcl hn6 hg6 hlb hn6e HP3
  go_upto_region 9 with fail
  refine region_chain [] [0, 1, 2, 3, 4, 5, 6, 7, 8, 9, 10, 11, 12, 13, 14, 15, 16, 17, 18, 19, 20, 21, 22, 23, 24, 25] (Grow w6) (Grow w6) (by kernel_rfl) (by kernel_rfl) (fun _ _ h k => h.trans k) (fun _ h => h) ((But.refl _ w6).drew) ?_
  intro ι hne X hX
  have d3 : ∀ i, (X i).cell? ⟨g, 3, none⟩ = some (.slice va ln vc) := fun i => HC3.out _ (hX i)
  have dl : ∀ i, (X i).cell? ⟨b6, o6 + ln, none⟩ = some (.int .i64 tp) := fun i => HCL.out _ (hX i)
  iterate 18 (refine still_step rfl (fun K hK => ?_); go_simp; refine hK _ ?_; clear hK K)
  refine still_val rfl (pval P (.slice va ln vc)) rfl (fun i => exec_ldF (cs := pcells P (.slice va ln vc)) Try.underlying42 rfl iPl (HLD.out _ (hX i)) rfl rfl) ?_
  intro K hK; go_simp; refine hK _ ?_; clear hK K
  refine still_call rfl (.int .i64 tp) 24 #[pval P (.slice va ln vc)] rfl (fun i => by kernel_rfl) (fun i => HTP.out _) ?_
  intro K hK; go_simp; refine hK _ ?_; clear hK K
  iterate 3 (refine still_step rfl (fun K hK => ?_); go_simp; refine hK _ ?_; clear hK K)
  refine still_call rfl (.bool true) 20 #[] rfl (fun i => by kernel_rfl) (fun i => HAW.out _) ?_
  intro K hK; go_simp; refine hK _ ?_; clear hK K
  iterate 2 (refine still_step rfl (fun K hK => ?_); go_simp; refine hK _ ?_; clear hK K)
  refine still_nil ?_
  clear hX hne d3 dl
  intro w8 hw8
  have HG8 := Hid.mk' (HG2.out.trans (HG6.out.trans hw8))
  clear hw8
  go_wp2
  go_ret
  exact ⟨rfl, HG8.out.below (Nat.le_refl _) (fun _ _ h => h)⟩
set_option maxRecDepth 100000 in
theorem planPaths_lifted (os : Os) (started : os.Started) (H : Type) (enc : TypeId × Value → H) :
    ReturnsInHanded {} Try.checked os 6 .any (Rows.planPathsSpec.pre6 enc Try.prog Try.f6 Rows.planPathsRow.domain false) (Rows.planPathsSpec.post enc Try.prog Try.f6 false true false false) := by
  refine returnsInHanded_of_change (C := Try.checked) (by kernel_rfl) started (by kernel_rfl) Try.func6
    (ChangeSpec.witness6 (enc := enc) (C := Try.checked) false ⟨#[], #[.int .i64 0, .int .i64 0, .int .i64 0], []⟩ 8 (by kernel_rfl) (by kernel_rfl) (by kernel_rfl) (by kernel_rfl)) ?_
  intro W base args ds gs before hval0 hW hcnd _
  have hval : ∀ (j : Nat) t v, Try.f6.params[j]? = some t → args[j]? = some v → Value.okWide Try.prog W .any base t v := hval0
  have hW' := hW
  obtain ⟨p, q, hA0, hV, rfl, hfz, hnd⟩ := hW
  have hA : DataW.TrodAll enc Try.prog W 0 (fun _ => true) true Try.f6.params.toList args.toList ds p := hA0
  rw [Try.params6] at hA hval
  obtain ⟨v0, vs0, d0, ds0, p0, q0, hargs, rfl, rfl, h0, r0⟩ := trodAll_cons hA
  obtain ⟨v1, vs1, d1, ds1, p1, q1, rfl, rfl, rfl, h1, r1⟩ := trodAll_cons r0
  obtain ⟨v2, vs2, d2, ds2, p2, q2, rfl, rfl, rfl, h2, r2⟩ := trodAll_cons r1
  obtain ⟨rfl, rfl, rfl⟩ := trodAll_nil r2
  obtain rfl : args = #[v0, v1, v2] := by cases args; simp_all
  obtain ⟨rfl, rfl⟩ := trodVars_none hV
  obtain ⟨a0, rfl, rfl, rfl, w0⟩ := open_int Try.underlying3 (hval 0 3 v0 rfl rfl) h0
  obtain ⟨a1, rfl, rfl, rfl, w1⟩ := open_int Try.underlying3 (hval 1 3 v1 rfl rfl) h1
  obtain ⟨a2, rfl, rfl, rfl, w2⟩ := open_int Try.underlying3 (hval 2 3 v2 rfl rfl) h2
  clear hA0 hval0
  refine (planPaths_walk a0 a1 a2 W w0 w1 w2).mono fun e W' ⟨he, bel⟩ => ?_
  subst he
  exact ⟨_, rfl, _, _, _, [], _, [], hW', trodAll_mk1 (shut_bool Try.underlying4 _), (trodAll_cons_mk (shut_int Try.underlying3 w0) (trodAll_cons_mk (shut_int Try.underlying3 w1) (trodAll_cons_mk (shut_int Try.underlying3 w2) trodAll_mk0))), rfl, bel.frame _, fun h => by cases h⟩

theorem planPaths_holds : Rows.PlanPathsSaid :=
  OpenClaim.holds_of_wide 6 Try.f6 rfl rfl rfl rfl rfl rfl rfl ⟨rfl, rfl, rfl, rfl, rfl⟩ rfl rfl rfl rfl rfl (by kernel_rfl) Try.func6 (by kernel_rfl)
    (of_decide_eq_true (by kernel_rfl)) (by unfold Func.isWrapper; first | (rw [if_pos (by decide +kernel)]; kernel_rfl) | (rw [if_neg (by decide +kernel)]; exact ⟨rfl, rfl⟩))
    (fun os started H enc _ => planPaths_lifted os started H enc)
#print axioms planPaths_holds
end Go.Proofs.Ytidblaepklgkcaa
