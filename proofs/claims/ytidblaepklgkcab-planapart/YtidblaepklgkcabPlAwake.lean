/- The document's example for plan; a plan of numbers brought right. -/
import Derived.Test.YtidblaepklgkcabPlNeed
import Derived.Test.YtidblaepklgkcabPickAny
import Derived.Test.YtidblaepklgkcabGuards
namespace Go.Proofs.Ytidblaepklgkcab
open Go.RowKit

theorem ex_levels : (plan 20 4).levels = [1] := by decide +kernel
theorem ex_plan : plan 20 4 = ⟨20, 4, 2, [1], 1, 23, 1, 24, 28, 32⟩ := by
  have e2 : bg 20 16 = 2 := by decide +kernel
  have e3 : bg (12 + 4 * 4) 256 = 1 := by decide +kernel
  unfold plan
  simp only [e2, e3]
  rfl
theorem ex_path : (plan 20 4).path 17 = [21, 22] := by rw [ex_plan]; decide +kernel
theorem ex_need : ([0, 1, 17].foldl (addP (plan 20 4)) []).length = 6 := by rw [ex_plan]; decide +kernel
theorem ex_has : (plan 20 4).has 17 = true := by rw [ex_plan]; decide +kernel
theorem Own.blk {w w' : World} {v : Value} {ks : List Int} (h : Own w w' v ks) : ∀ b, v.ownBlock = some b → b < w'.heap.size := fun b hb => (World.ownsRow.lt h.row b hb).2
/-- A plan of the program's in memory: its levels are there. -/
structure Pm (w : World) (n b : Nat) (v : Value) : Prop where
  nums : Nums w v (plan n b).levels
  len : (plan n b).levels.length ≤ 3
theorem plan_lv {n b : Nat} (h1 : 1 ≤ n) (h2 : n ≤ 4096) : (plan n b).levels.length ≤ 3 ∧ ∀ x ∈ (plan n b).levels, -9223372036854775808 ≤ x ∧ x ≤ 9223372036854775807 := by
  have h := lvs_le (c := bg n 16) (by unfold bg; omega) (by unfold bg; omega)
  show (toI (lvs (bg n 16))).length ≤ 3 ∧ ∀ x ∈ toI (lvs (bg n 16)), _
  exact ⟨by rw [toI_len]; exact h.1, toI_i64 (fun x hx => by have := (h.2.2.2 x hx).2; omega)⟩
theorem Pm.of {w w' : World} {n b : Nat} {v : Value} (h1 : 1 ≤ n) (h2 : n ≤ 4096) (h : Own w w' v (plan n b).levels) : Pm w' n b v := by
  have hl := plan_lv (b := b) h1 h2
  exact ⟨h.nums hl.2 (by have := hl.1; omega), hl.1⟩
theorem Pm.grow {w w' : World} {n b : Nat} {v : Value} (h : Pm w n b v) (k : Grow w w') : Pm w' n b v := ⟨h.nums.grow k, h.len⟩
theorem wpList_runG {ops : Array Oper} {rest : List Oper} {o : Oper} {a : Act} {w w' : World} {Q : Exit → Act → World → Prop} {v : Value} (hw : Region.wanted o (yielded ops a.tmps) = true) (hr : (execOp a.eval o).run Try.prog w = .ok (.value v) w') (h : wpList Try.prog ops Q rest (a.put o.dst v) w') : wpList Try.prog ops Q (o :: rest) a w :=
  wpList_want hw fun _ hK => by
    unfold Oper.wp
    rw [hr]
    exact hK _ _ h
/-- A variable for a plan is made. -/
theorem var_new (w : World) : Blk (w.alloc (.cells (pcells Pn.zero noS).toArray 24)) w.heap.size 24 ([] ++ pcells Pn.zero noS ++ []) := by
  rw [List.nil_append, List.append_nil]; exact Blk.new rfl
theorem var_grow {w w2 : World} (k : But (· = w.heap.size) (w.alloc (.cells (pcells Pn.zero noS).toArray 24)) w2) : Grow w w2 :=
  ((But.refl (fun _ => False) w).alloc _).then k (fun j hj e => by omega)
theorem Blk.pl {w : World} {g : Nat} {T : TypeId} {L : List Value} (h : Blk w g T L) : ∀ j u, L[j]? = some u → w.cell? ((⟨g, 0, none⟩ : Addr).add j) = some u := fun j u hj => by
  rw [addr_add, Nat.zero_add, h.cell j]; exact hj
/-- Some numbers in a row that the text lays. -/
theorem nums_lit {w : World} {g : Nat} {ks : List Int} (h : Blk w g 3 (numv ks)) (hk : ∀ x ∈ ks, -9223372036854775808 ≤ x ∧ x ≤ 9223372036854775807) (h0 : 0 < ks.length) (hl : ks.length ≤ 1000) : Nums w (.slice (some ⟨g, 0, none⟩) ks.length ks.length) ks :=
  ⟨hk, by omega, .inr ⟨h0, g, 0, ks.length, rfl, Nat.le_refl _, h.lt, fun i hi => by rw [Nat.zero_add, h.cell i]; simp [numv, hi]⟩⟩
set_option maxRecDepth 100000 in
set_option maxHeartbeats 2000000 in
theorem plawake_any (w : World) : Calls Try.prog 9 #[] w fun e w' => e = .returned (.bool true) ∧ Grow w w' := by
  have HOF := Hid.mk' (planof_any w 20 4 (by decide) (by decide) (by decide) (by decide))
  obtain ⟨P, hP⟩ : ∃ P, P = plan 20 4 := ⟨_, rfl⟩
  have HP := Hid.mk' hP
  unfold OfTo at HOF
  rw [← hP] at HOF
  clear hP
  go_enter Try.func9, Try.ntmps9
  go_wp2_with fail
  refine Calls.mono HOF.out ?_
  rintro e w1 ⟨v, rfl, ho, hg⟩
  have hm := Pm.of (n := 20) (b := 4) (by decide) (by decide) (by rw [← HP.out]; exact ho)
  have HM := Hid.mk' hm
  have HG := Hid.mk' hg
  obtain ⟨va, vc, hve⟩ := ho.sl
  generalize P.levels.length = ln at hve
  subst hve
  clear hm hg ho HOF
  go_upto_region 2 with (first
    | (refine wpList_runH rfl (exec_allocF rfl (zPl _)) ?_)
    | (refine wpList_store_at rfl _ _ _ rfl w1.heap.size 0 (pcells P (.slice va ln vc)) rfl rfl 24 [] (pcells Pn.zero noS) [] (var_new w1) rfl rfl iPl (pcells_one _ rfl) ?_; intro w2 hb2 hbut2; rw [List.nil_append, List.append_nil] at hb2)
    | fail)
  obtain ⟨g, hgg⟩ : ∃ g, g = w1.heap.size := ⟨_, rfl⟩
  have hg2 := var_grow hbut2
  rw [← hgg] at hb2 ⊢
  have HB2 := Hid.mk' hb2
  have HM2 := Hid.mk' (HM.out.grow hg2)
  have HG2 := Hid.mk' (HG.out.trans hg2)
  have HPA := Hid.mk' (path_any w2 (plan 20 4) (.slice va ln vc) 17 ex_has HM2.out.nums (by have := HM2.out.len; omega))
  rw [ex_path] at HPA
  unfold PathTo at HPA
  rw [← HP.out] at HPA
  clear hgg hb2 hbut2 hg2 HM HG
  go_wp2_with (first
    | (refine wpList_load_cells rfl _ _ rfl ⟨g, 0, none⟩ rfl (pcells P (.slice va ln vc)) _ HB2.out.pl Try.underlying24 rfl iPl ?_)
    | fail)
  refine Calls.mono HPA.out ?_
  rintro e w3 ⟨r, rfl, ho3, hg3⟩
  have hb3 := HB2.out.but hg3 (fun h => h)
  have HB3 := Hid.mk' hb3
  have HM3 := Hid.mk' (HM2.out.grow hg3)
  have HG3 := Hid.mk' (HG2.out.trans hg3)
  have HR := Hid.mk' (ho3.nums (by decide) (by decide))
  obtain ⟨ra, rc, hre⟩ := ho3.sl
  rw [show [(21 : Int), 22].length = 2 from rfl] at hre
  subst hre
  have c5 : w3.cell? ⟨g, 5, none⟩ = some (.int .i64 23) := (hb3.cell 5).trans (by rw [HP.out, ex_plan]; rfl)
  have c9 : w3.cell? ⟨g, 9, none⟩ = some (.int .i64 32) := (hb3.cell 9).trans (by rw [HP.out, ex_plan]; rfl)
  clear hb3 ho3 hg3 HPA HB2 HM2 HG2
  go_wp2_with fail
  have HGA : Hid (Grow w3 (w3.alloc (.cells #[.int .i64 21, .int .i64 22] 3))) := (But.refl _ w3).alloc _
  have HNA := Hid.mk' (nums_lit (ks := [21, 22]) (Blk.new (w := w3) (L := numv [21, 22]) rfl) (by decide) (by decide) (by decide))
  have hsm := sameints_any (HR.out.grow HGA.out) HNA.out
  rw [decide_eq_true rfl] at hsm
  refine Calls.mono hsm ?_
  rintro e w4 ⟨rfl, hg4⟩
  have hgr := HGA.out.trans hg4
  have HB4 := Hid.mk' (HB3.out.but hgr (fun h => h))
  have HM4 := Hid.mk' (HM3.out.grow hgr)
  have HG4 := Hid.mk' (HG3.out.trans hgr)
  clear hsm hg4 hgr HGA HNA HB3 HM3 HG3 c5 c9 HR
  go_wp2_with (first
    | (refine wpList_runG rfl (exec_ldF (cs := pcells P (.slice va ln vc)) Try.underlying24 rfl iPl HB4.out.pl rfl rfl) ?_)
    | fail)
  have HGA : Hid (Grow w4 (w4.alloc (.cells #[.int .i64 0, .int .i64 1, .int .i64 17] 3))) := (But.refl _ w4).alloc _
  have HNA := Hid.mk' (nums_lit (ks := [0, 1, 17]) (Blk.new (w := w4) (L := numv [0, 1, 17]) rfl) (by decide) (by decide) (by decide))
  have hm5 := HM4.out.grow HGA.out
  have hnd := need_any _ (plan 20 4) (.slice va ln vc) _ [0, 1, 17] hm5.nums (by have := hm5.len; omega) HNA.out
  rw [ex_need, ← HP.out] at hnd
  refine Calls.mono hnd ?_
  rintro e w5 ⟨rfl, hg5⟩
  have HG5 := Hid.mk' (HG4.out.trans (HGA.out.trans hg5))
  clear hm5 hnd hg5 HGA HNA HB4 HM4 HG4
  go_wp2
  go_ret
  exact ⟨rfl, HG5.out⟩
/-- What made tells: a plan of numbers that are brought right. -/
def MadeTo (w : World) (x y : Int) (e : Ending) (w' : World) : Prop := ∃ (n b : Nat) (v : Value), (n : Int) = 1 + x % 4096 ∧ (b : Int) = 1 + y % 256 ∧ e = .returned (.tuple #[pval (plan n b) v, .bool true]) ∧ Own w w' v (plan n b).levels ∧ Grow w w'
end Go.Proofs.Ytidblaepklgkcab
