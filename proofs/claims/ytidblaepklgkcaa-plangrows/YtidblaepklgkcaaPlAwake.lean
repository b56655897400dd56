/- The document's example for plan; a plan of numbers brought right. -/
import Derived.Test.YtidblaepklgkcaaPlNeed
import Derived.Test.YtidblaepklgkcaaPickAny
import Derived.Test.YtidblaepklgkcaaGuards
namespace Go.Proofs.Ytidblaepklgkcaa
open Go.RowKit

theorem ex_levels : (plan 20 4).levels = [1] := by decide +kernel
theorem ex_plan : plan 20 4 = ⟨20, 4, 2, [1], 1, 23, 1, 24, 28, 32⟩ := by
  have e2 : bg 20 16 = 2 := by decide +kernel
  have e3 : bg (12 + 4 * 4) 256 = 1 := by decide +kernel
  unfold plan
  simp only [e2, e3]
  rfl
theorem ex_path : (plan 20 4).path 17 = [21, 22] := by rw [ex_plan]; decide +kernel
theorem ex_need : ([0, 1, 17].foldl (addP (plan 20 4)) []).length = 6 := by rw [ex_plan]; decide +kernel
theorem ex_has : (plan 20 4).has 17 = true := by rw [ex_plan]; decide +kernel
theorem Own.blk {w w' : World} {v : Value} {ks : List Int} (h : Own w w' v ks) : ∀ b, v.ownBlock = some b → b < w'.heap.size := fun b hb => (World.ownsRow.lt h.row b hb).2
/-- A plan of the program's in memory: its levels are there. -/
structure Pm (w : World) (n b : Nat) (v : Value) : Prop where
  nums : Nums w v (plan n b).levels
  len : (plan n b).levels.length ≤ 3
theorem plan_lv {n b : Nat} (h1 : 1 ≤ n) (h2 : n ≤ 4096) : (plan n b).levels.length ≤ 3 ∧ ∀ x ∈ (plan n b).levels, -9223372036854775808 ≤ x ∧ x ≤ 9223372036854775807 := by
  have h := lvs_le (c := bg n 16) (by unfold bg; omega) (by unfold bg; omega)
  show (toI (lvs (bg n 16))).length ≤ 3 ∧ ∀ x ∈ toI (lvs (bg n 16)), _
  exact ⟨by rw [toI_len]; exact h.1, toI_i64 (fun x hx => by have := (h.2.2.2 x hx).2; omega)⟩
theorem Pm.of {w w' : World} {n b : Nat} {v : Value} (h1 : 1 ≤ n) (h2 : n ≤ 4096) (h : Own w w' v (plan n b).levels) : Pm w' n b v := by
  have hl := plan_lv (b := b) h1 h2
  exact ⟨h.nums hl.2 (by have := hl.1; omega), hl.1⟩
theorem Pm.grow {w w' : World} {n b : Nat} {v : Value} (h : Pm w n b v) (k : Grow w w') : Pm w' n b v := ⟨h.nums.grow k, h.len⟩
theorem wpList_runG {ops : Array Oper} {rest : List Oper} {o : Oper} {a : Act} {w w' : World} {Q : Exit → Act → World → Prop} {v : Value} (hw : Region.wanted o (yielded ops a.tmps) = true) (hr : (execOp a.eval o).run Try.prog w = .ok (.value v) w') (h : wpList Try.prog ops Q rest (a.put o.dst v) w') : wpList Try.prog ops Q (o :: rest) a w :=
  wpList_want hw fun _ hK => by
    unfold Oper.wp
    rw [hr]
    exact hK _ _ h
/-- A variable for a plan is made. -/
theorem var_new (w : World) : Blk (w.alloc (.cells (pcells Pn.zero noS).toArray 42)) w.heap.size 42 ([] ++ pcells Pn.zero noS ++ []) := by
  rw [List.nil_append, List.append_nil]; exact Blk.new rfl
theorem var_grow {w w2 : World} (k : But (· = w.heap.size) (w.alloc (.cells (pcells Pn.zero noS).toArray 42)) w2) : Grow w w2 :=
  ((But.refl (fun _ => False) w).alloc _).then k (fun j hj e => by omega)
theorem Blk.pl {w : World} {g : Nat} {T : TypeId} {L : List Value} (h : Blk w g T L) : ∀ j u, L[j]? = some u → w.cell? ((⟨g, 0, none⟩ : Addr).add j) = some u := fun j u hj => by
  rw [addr_add, Nat.zero_add, h.cell j]; exact hj
/-- Some numbers in a row that the text lays. -/
theorem nums_lit {w : World} {g : Nat} {ks : List Int} (h : Blk w g 3 (numv ks)) (hk : ∀ x ∈ ks, -9223372036854775808 ≤ x ∧ x ≤ 9223372036854775807) (h0 : 0 < ks.length) (hl : ks.length ≤ 1000) : Nums w (.slice (some ⟨g, 0, none⟩) ks.length ks.length) ks :=
  ⟨hk, by omega, .inr ⟨h0, g, 0, ks.length, rfl, Nat.le_refl _, h.lt, fun i hi => by rw [Nat.zero_add, h.cell i]; simp [numv, hi]⟩⟩
set_option maxRecDepth 100000 in
set_option maxHeartbeats 2000000 in
theorem plawake_any (w : World) : Calls Try.prog 20 #[] w fun e w' => e = .returned (.bool true) ∧ Grow w w' := by
  have HOF := Hid.mk' (planof_any w 20 4 (by decide) (by decide) (by decide) (by decide))
  obtain ⟨P, hP⟩ : ∃ P, P = plan 20 4 := ⟨_, rfl⟩
  have HP := Hid.mk' hP
  unfold OfTo at HOF
  rw [← hP] at HOF
  clear hP
  go_enter Try.func20, Try.ntmps20
  go_wp2_with fail
  refine Calls.mono HOF.out ?_
  rintro e w1 ⟨v, rfl, ho, hg⟩
  have hm := Pm.of (n := 20) (b := 4) (by decide) (by decide) (by rw [← HP.out]; exact ho)
  have HM := Hid.mk' hm
  have HG := Hid.mk' hg
  obtain ⟨va, vc, hve⟩ := ho.sl
  generalize P.levels.length = ln at hve
  subst hve
  clear hm hg ho HOF
  go_upto_region 2 with (first
    | (refine wpList_runH rfl (exec_allocF rfl (zPl _)) ?_)
    | (refine wpList_store_at rfl _ _ _ rfl w1.heap.size 0 (pcells P (.slice va ln vc)) rfl rfl 42 [] (pcells Pn.zero noS) [] (var_new w1) rfl rfl iPl (pcells_one _ rfl) ?_; intro w2 hb2 hbut2; rw [List.nil_append, List.append_nil] at hb2)
    | fail)
  obtain ⟨g, hgg⟩ : ∃ g, g = w1.heap.size := ⟨_, rfl⟩
  have hg2 := var_grow hbut2
  rw [← hgg] at hb2 ⊢
  have HB2 := Hid.mk' hb2
  have HM2 := Hid.mk' (HM.out.grow hg2)
  have HG2 := Hid.mk' (HG.out.trans hg2)
  have HPA := Hid.mk' (path_any w2 (plan 20 4) (.slice va ln vc) 17 ex_has HM2.out.nums (by have := HM2.out.len; omega))
  rw [ex_path] at HPA
  unfold PathTo at HPA
  rw [← HP.out] at HPA
  clear hgg hb2 hbut2 hg2 HM HG
  go_wp2_with (first
    | (refine wpList_load_cells rfl _ _ rfl ⟨g, 0, none⟩ rfl (pcells P (.slice va ln vc)) _ HB2.out.pl Try.underlying42 rfl iPl ?_)
    | fail)
  refine Calls.mono HPA.out ?_
  rintro e w3 ⟨r, rfl, ho3, hg3⟩
  have hb3 := HB2.out.but hg3 (fun h => h)
  have HB3 := Hid.mk' hb3
  have HM3 := Hid.mk' (HM2.out.grow hg3)
  have HG3 := Hid.mk' (HG2.out.trans hg3)
  have HR := Hid.mk' (ho3.nums (by decide) (by decide))
  obtain ⟨ra, rc, hre⟩ := ho3.sl
  rw [show [(21 : Int), 22].length = 2 from rfl] at hre
  subst hre
  have c5 : w3.cell? ⟨g, 5, none⟩ = some (.int .i64 23) := (hb3.cell 5).trans (by rw [HP.out, ex_plan]; rfl)
  have c9 : w3.cell? ⟨g, 9, none⟩ = some (.int .i64 32) := (hb3.cell 9).trans (by rw [HP.out, ex_plan]; rfl)
  clear hb3 ho3 hg3 HPA HB2 HM2 HG2
  go_wp2_with fail
  have HGA : Hid (Grow w3 (w3.alloc (.cells #[.int .i64 21, .int .i64 22] 3))) := (But.refl _ w3).alloc _
  have HNA := Hid.mk' (nums_lit (ks := [21, 22]) (Blk.new (w := w3) (L := numv [21, 22]) rfl) (by decide) (by decide) (by decide))
  have hsm := sameints_any (HR.out.grow HGA.out) HNA.out
  rw [decide_eq_true rfl] at hsm
  refine Calls.mono hsm ?_
  rintro e w4 ⟨rfl, hg4⟩
  have hgr := HGA.out.trans hg4
  have HB4 := Hid.mk' (HB3.out.but hgr (fun h => h))
  have HM4 := Hid.mk' (HM3.out.grow hgr)
  have HG4 := Hid.mk' (HG3.out.trans hgr)
  clear hsm hg4 hgr HGA HNA HB3 HM3 HG3 c5 c9 HR
  go_wp2_with (first
    | (refine wpList_runG rfl (exec_ldF (cs := pcells P (.slice va ln vc)) Try.underlying42 rfl iPl HB4.out.pl rfl rfl) ?_)
    | fail)
  have HGA : Hid (Grow w4 (w4.alloc (.cells #[.int .i64 0, .int .i64 1, .int .i64 17] 3))) := (But.refl _ w4).alloc _
  have HNA := Hid.mk' (nums_lit (ks := [0, 1, 17]) (Blk.new (w := w4) (L := numv [0, 1, 17]) rfl) (by decide) (by decide) (by decide))
  have hm5 := HM4.out.grow HGA.out
  have hnd := need_any _ (plan 20 4) (.slice va ln vc) _ [0, 1, 17] hm5.nums (by have := hm5.len; omega) HNA.out
  rw [ex_need, ← HP.out] at hnd
  refine Calls.mono hnd ?_
  rintro e w5 ⟨rfl, hg5⟩
  have HG5 := Hid.mk' (HG4.out.trans (HGA.out.trans hg5))
  clear hm5 hnd hg5 HGA HNA HB4 HM4 HG4
  go_wp2
  go_ret
  exact ⟨rfl, HG5.out⟩
/-- What made tells: a plan of numbers that are brought right. -/
def MadeTo (w : World) (x y : Int) (e : Ending) (w' : World) : Prop := ∃ (n b : Nat) (v : Value), (n : Int) = 1 + x % 4096 ∧ (b : Int) = 1 + y % 256 ∧ e = .returned (.tuple #[pval (plan n b) v, .bool true]) ∧ Own w w' v (plan n b).levels ∧ Grow w w'
set_option maxRecDepth 100000 in
set_option maxHeartbeats 2000000 in
theorem made_any (w : World) (x y : Int) : Calls Try.prog 21 #[.int .i64 x, .int .i64 y] w (MadeTo w x y) := by
  obtain ⟨n, hn⟩ : ∃ n : Nat, (n : Int) = 1 + x % 4096 := ⟨(1 + x % 4096).toNat, by have := Int.emod_nonneg x (b := 4096) (by decide); omega⟩
  obtain ⟨b, hb⟩ : ∃ b : Nat, (b : Int) = 1 + y % 256 := ⟨(1 + y % 256).toNat, by have := Int.emod_nonneg y (b := 256) (by decide); omega⟩
  have hn1 : 1 ≤ n := by have := Int.emod_nonneg x (b := 4096) (by decide); omega
  have hn2 : n ≤ 4096 := by have := Int.emod_lt_of_pos x (b := 4096) (by decide); omega
  have hb1 : 1 ≤ b := by have := Int.emod_nonneg y (b := 256) (by decide); omega
  have hb2 : b ≤ 256 := by have := Int.emod_lt_of_pos y (b := 256) (by decide); omega
  obtain ⟨g0, hg0⟩ : ∃ g, g = w.heap.size := ⟨_, rfl⟩
  obtain ⟨W, hW⟩ : ∃ W, W = w.alloc (.cells (pcells Pn.zero noS).toArray 42) := ⟨_, rfl⟩
  have HGW : Hid (Grow w W) := Hid.mk' (by rw [hW]; exact (But.refl _ w).alloc _)
  have HB0 : Hid (Blk W g0 42 (pcells Pn.zero noS)) := Hid.mk' (by rw [hW]; exact Blk.new hg0.symm)
  have HGE : Hid (w.heap.size ≤ g0) := Hid.mk' (by omega)
  have HP1 := Hid.mk' (pick_any x 4096 W (by decide) (by decide))
  have HP2 := Hid.mk' (pick_any y 256 W (by decide) (by decide))
  have HOF := Hid.mk' (planof_any W n b hn1 hn2 hb1 hb2)
  have HNB := Hid.mk' (And.intro hn hb)
  have HN12 := Hid.mk' (And.intro hn1 hn2)
  obtain ⟨X, hX⟩ : ∃ X, X = x % 4096 := ⟨_, rfl⟩
  obtain ⟨Y, hY⟩ : ∃ Y, Y = y % 256 := ⟨_, rfl⟩
  rw [← hX] at HP1
  rw [← hY] at HP2
  have eX : 1 + X = (n : Int) := by rw [hX]; exact hn.symm
  have eY : 1 + Y = (b : Int) := by rw [hY]; exact hb.symm
  have bX : (n : Int) ≤ 4096 := by omega
  have bY : (b : Int) ≤ 256 := by omega
  have bX0 : 0 ≤ X := by omega
  have bY0 : 0 ≤ Y := by omega
  have HW := Hid.mk' hW
  have HG0 := Hid.mk' hg0
  clear hn hb hn1 hn2 hb1 hb2 hg0 hW hX hY
  go_enter Try.func21, Try.ntmps21
  go_upto_region 1 with (first
    | (refine wpList_runH rfl (exec_allocF rfl (zPl _)) ?_)
    | fail)
  rw [← HW.out, ← HG0.out]
  clear HW HG0
  go_wp2_with fail
  refine Calls.mono HP1.out ?_
  rintro e w' ⟨rfl, hw⟩
  have h3 := hw.symm
  subst h3
  clear hw HP1
  go_wp2_with fail
  refine Calls.mono HP2.out ?_
  rintro e w' ⟨rfl, hw⟩
  have h3 := hw.symm
  subst h3
  clear hw HP2
  go_wp2_with fail
  refine Calls.mono HOF.out ?_
  rintro e w1 ⟨v, rfl, ho, hg⟩
  obtain ⟨va, vc, hve⟩ := ho.sl
  obtain ⟨P, hP⟩ : ∃ P, P = plan n b := ⟨_, rfl⟩
  rw [← hP] at ho hve ⊢
  have HP := Hid.mk' hP
  generalize P.levels.length = ln at hve
  subst hve
  have HO := Hid.mk' ho
  have HG := Hid.mk' hg
  clear hg ho HOF hP
  go_upto_region 2 with (first
    | (refine wpList_runH rfl (exec_allocF rfl (zPl _)) ?_)
    | (refine wpList_store_at rfl _ _ _ rfl w1.heap.size 0 (pcells P (.slice va ln vc)) rfl rfl 42 [] (pcells Pn.zero noS) [] (var_new w1) rfl rfl iPl (pcells_one _ rfl) ?_; intro w2 hb2 hbut2; rw [List.nil_append, List.append_nil] at hb2)
    | fail)
  obtain ⟨g, hgg⟩ : ∃ g, g = w1.heap.size := ⟨_, rfl⟩
  have hg2 := var_grow hbut2
  rw [← hgg] at hb2 ⊢
  have HB2 := Hid.mk' hb2
  have HO2 := Hid.mk' (HO.out.grow hg2)
  have HG2 := Hid.mk' (HG.out.trans hg2)
  have HB02 : Hid (Blk w2 g0 42 ([] ++ pcells Pn.zero noS ++ [])) := Hid.mk' (by rw [List.nil_append, List.append_nil]; exact HB0.out.but HG2.out (fun h => h))
  clear hgg hb2 hbut2 hg2 HO HG
  go_wp2_with (first
    | (refine wpList_load_cells rfl _ _ rfl ⟨g, 0, none⟩ rfl (pcells P (.slice va ln vc)) _ HB2.out.pl Try.underlying42 rfl iPl ?_)
    | (refine wpList_store_at rfl _ _ _ rfl g0 0 (pcells P (.slice va ln vc)) rfl rfl 42 [] (pcells Pn.zero noS) [] HB02.out rfl rfl iPl (pcells_one _ rfl) ?_; intro w3 hb3 hbut3; rw [List.nil_append, List.append_nil] at hb3)
    | fail)
  have hno : ∀ j, (Value.slice va ln vc).ownBlock = some j → ¬ j = g0 := fun j hj e => by
    have := HO2.out.new j hj
    have := HB0.out.lt
    omega
  refine bodyPost_ret (results_plan_tmp rfl _ _ g0 _ _ _ _ rfl hb3 Try.underlying42 rfl iPl rfl) rfl ⟨n, b, .slice va ln vc, HNB.out.1, HNB.out.2, ?_, ?_, ?_⟩
  · rw [HP.out]; rfl
  · rw [← HP.out]
    have h9 := HO2.out.but hbut3 hno
    exact ⟨h9.row, fun k hk => Nat.le_trans HGW.out.size (h9.new k hk)⟩
  · exact (HGW.out.trans HG2.out).then hbut3 (fun j hj e => by have := HGE.out; omega)
end Go.Proofs.Ytidblaepklgkcaa
