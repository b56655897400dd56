/- The reference's Path, of plans that Of made. -/
import Derived.Test.YtidblaepklgkcaaPlAgree
namespace Go.Proofs.Ytidblaepklgkcaa
open Go.RowKit

theorem var_newD (w : World) : Blk (w.alloc (.cells (plc 0 0).toArray 53)) w.heap.size 53 ([] ++ plc 0 0 ++ []) := by
  rw [List.nil_append, List.append_nil]; exact Blk.new rfl
theorem var_growD {w w2 : World} (k : But (· = w.heap.size) (w.alloc (.cells (plc 0 0).toArray 53)) w2) : Grow w w2 :=
  ((But.refl (fun _ => False) w).alloc _).then k (fun j hj e => by omega)
/-- What memory is amid the reference's Path. -/
structure RpM (w wr : World) (gp g7 : Nat) (p : Pn) (v r : Value) (ds : List Int) (pb pa : Int) : Prop where
  box : Blk wr gp 42 (pcells p v)
  up : Blk wr g7 53 (plc pb pa)
  row : wr.ownsRow 0 3 1 r ds.length (numv ds)
  new : ∀ k, r.ownBlock = some k → w.heap.size ≤ k ∧ k ≠ gp ∧ k ≠ g7
  grow : Grow w wr
  ne : gp ≠ g7 ∧ w.heap.size ≤ g7
theorem RpM.then {w wr w' : World} {gp g7 : Nat} {p : Pn} {v r : Value} {ds : List Int} {pb pa : Int} (h : RpM w wr gp g7 p v r ds pb pa) (k : Grow wr w') : RpM w w' gp g7 p v r ds pb pa :=
  ⟨h.box.but k (fun h => h), h.up.but k (fun h => h), ownsRow_grow h.row k, h.new, h.grow.trans k, h.ne⟩
theorem RpM.put {w wr w' : World} {gp g7 : Nat} {p : Pn} {v r : Value} {ds : List Int} {pb pa pb' pa' : Int} (h : RpM w wr gp g7 p v r ds pb pa) (hb : Blk w' g7 53 (plc pb' pa')) (k : But (· = g7) wr w') : RpM w w' gp g7 p v r ds pb' pa' :=
  ⟨h.box.but k h.ne.1, hb, ownsRow_but h.row k (fun j hj e => (h.new j hj).2.2 e), h.new, h.grow.then k (fun j hj e => by have := h.ne.2; omega), h.ne⟩
theorem RpM.app {w wr wa w4 : World} {gp g7 dl : Nat} {p : Pn} {v r v4 : Value} {ds : List Int} {pb pa x : Int} (h : RpM w wr gp g7 p v r ds pb pa) (hd : dl = ds.length) (ha : Grow wr wa) (hap : Appd wa w4 3 1 r v4 (dl + 1) (numv ds ++ numv [x])) : RpM w w4 gp g7 p v v4 (ds ++ [x]) pb pa := by
  have hn : ∀ k, v4.ownBlock = some k → w.heap.size ≤ k ∧ k ≠ gp ∧ k ≠ g7 := fun j hj => by
    rcases hap.at' with e | e
    · exact h.new j (by rw [← e]; exact hj)
    · rw [e] at hj
      have := Option.some.inj hj
      have := ha.size
      have := h.grow.size
      have := h.box.lt
      have := h.up.lt
      exact ⟨by omega, by omega, by omega⟩
  refine ⟨(h.box.but ha (fun h => h)).but hap.but (fun e => (h.new gp e).2.1 rfl), (h.up.but ha (fun h => h)).but hap.but (fun e => (h.new g7 e).2.2 rfl), ?_, hn, (h.grow.trans ha).then hap.but (fun j hj e => by have := (h.new j e).1; omega), h.ne⟩
  rw [List.length_append, List.length_singleton, ← hd, show numv (ds ++ [x]) = numv ds ++ numv [x] by simp [numv]]
  exact hap.own
def slen : Value → Nat
  | .slice _ n _ => n
  | _ => 0
set_option maxRecDepth 100000 in
theorem rpath_not (w : World) (p : Pn) (v : Value) (x : Int) (h : p.has x = false) : Calls Try.prog 26 #[pval p v, .int .i64 x] w fun e w' => e = .returned (.tuple #[noS, .int .i64 1]) ∧ Grow w w' := by
  obtain ⟨W, gp, hbx⟩ := box_pl w p v
  have HW := Hid.mk' hbx.ew
  have HGP := Hid.mk' hbx.eg
  have HG := Hid.mk' hbx.grow
  have c0 : W.cell? ⟨gp, 0, none⟩ = some (.int .i64 p.pages) := hbx.blk.cell 0
  have h0 := of_decide_eq_false h
  generalize p.pages = a0 at c0 h0
  unfold pval
  obtain ⟨N, hN⟩ : ∃ N, N = (pcells p v).toArray := ⟨_, rfl⟩
  rw [← hN] at HW ⊢
  clear hbx hN h
  rcases (by omega : x < 0 ∨ (¬ x < 0 ∧ a0 ≤ x)) with h1 | ⟨h1, h2⟩
  all_goals
    clear h0
    go_enter Try.func26, Try.ntmps26
    go_upto_region 1 with fail
    rw [← HW.out, ← HGP.out]
    clear HW HGP
    go_wp2
    exact bodyPost_ret (results_tmp2 rfl _ _ _) rfl ⟨rfl, HG.out⟩
set_option maxRecDepth 100000 in
set_option maxHeartbeats 2000000 in
theorem rpath_any (w : World) (p : Pn) (v : Value) (x : Int) (hm : Mad p) (h : p.has x = true) (hv : Nums w v p.levels) : Calls Try.prog 26 #[pval p v, .int .i64 x] w (PathTo w (p.path x)) := by
  obtain ⟨W, gp, hbx⟩ := box_pl w p v
  have HW := Hid.mk' hbx.ew
  have HGP := Hid.mk' hbx.eg
  have HBX := Hid.mk' hbx
  have HV := Hid.mk' hv
  have HMA := Hid.mk' hm
  have c0 : W.cell? ⟨gp, 0, none⟩ = some (.int .i64 p.pages) := hbx.blk.cell 0
  have h0 := of_decide_eq_true h
  have hpa := hm.path h
  have HPL := Hid.mk' hbx.blk.pl
  have hpg := hm.pg
  obtain ⟨PA, hPA⟩ : ∃ l, l = p.path x := ⟨_, rfl⟩
  rw [← hPA] at hpa ⊢
  have HCH := Hid.mk' hpa.1
  have HPN : Hid (PA.length ≤ 4 ∧ ∀ y ∈ PA, i64 y) := Hid.mk' ⟨by have := hpa.2.len; have := hm.len; omega, fun y hy => by
    have h5 := hpa.2.ge y hy
    have := hm.hd
    have := hm.c1
    have := hm.nd
    have := hm.sum
    unfold i64
    omega⟩
  have HRP : Hid (∀ wz q, Grow w wz → i64 q → Calls Try.prog 23 #[pval p v, .int .i64 q] wz fun e w' => e = .returned (p.par q).ret ∧ Grow wz w') := fun wz q kk hq => by
    have h := rparent_any wz p v q hq (hv.grow kk) hm.good
    rw [hm.rpar hq] at h
    exact h
  have hx0 : ¬ x < 0 := by omega
  have HXI : Hid (i64 x) := Hid.mk' (by unfold i64; omega)
  have hx1 : ¬ p.pages ≤ x := by omega
  generalize p.pages = a0 at c0 hx1
  unfold pval at HRP ⊢
  obtain ⟨N, hN⟩ : ∃ N, N = (pcells p v).toArray := ⟨_, rfl⟩
  rw [← hN] at HW HRP ⊢
  have HNE := Hid.mk' hN
  clear hbx hN h h0 hv hm hpa hpg hPA
  go_enter Try.func26, Try.ntmps26
  go_upto_region 1 with fail
  rw [← HW.out, ← HGP.out]
  clear HW HGP
  have HP0 := Hid.mk' (HRP.out W x HBX.out.grow HXI.out)
  obtain ⟨⟨pb, pa, pe⟩, hpc⟩ : ∃ pc, pc = p.par x := ⟨_, rfl⟩
  rw [← hpc] at HP0
  unfold Pc.ret at HP0
  dsimp only at HP0
  have HPC := Hid.mk' hpc
  clear hpc
  go_wp2_with (first
    | (refine wpList_load_cells rfl _ _ rfl ⟨gp, 0, none⟩ rfl (pcells p v) _ HPL.out Try.underlying42 rfl iPl ?_; rw [← HNE.out])
    | fail)
  refine Calls.mono HP0.out ?_
  rintro e w2 ⟨rfl, hg2⟩
  have HB2 := Hid.mk' (HBX.out.blk.but hg2 (fun h => h))
  have HG2 := Hid.mk' (HBX.out.grow.trans hg2)
  clear hg2 HP0 c0 HPL
  go_upto_region 5 with (first
    | (refine wpList_runH rfl (exec_allocF rfl (zPc _)) ?_)
    | (refine wpList_store_at rfl _ _ _ rfl w2.heap.size 0 (plc pb pa) rfl rfl 53 [] (plc 0 0) [] (var_newD w2) rfl rfl iPc (plc_one _ _) ?_; intro w3 hb3 hbut3; rw [List.nil_append, List.append_nil] at hb3)
    | fail)
  obtain ⟨g7, hgg⟩ : ∃ g, g = w2.heap.size := ⟨_, rfl⟩
  have hg3 := var_growD hbut3
  rw [← hgg] at hb3 ⊢
  have HM3 : Hid (RpM w w3 gp g7 p v noS [] pb pa) := Hid.mk' ⟨HB2.out.but hg3 (fun h => h), hb3, World.ownsRow_nil _ _ _ _, (fun k hk => by cases hk), HG2.out.trans hg3, ⟨by have := HB2.out.lt; omega, by have := HG2.out.size; omega⟩⟩
  clear hgg hb3 hbut3 hg3 HB2 HG2
  go_loopw [6, 8] (fun ov ev wr => ∃ (r : Value) (ds rem : List Int) (q pb pa pe : Int), r = ov ∧ ev = .int .i64 pe ∧ PA = ds ++ rem ∧ chn p q rem ∧ (⟨pb, pa, pe⟩ : Pc) = p.par q ∧ RpM w wr gp g7 p v r ds pb pa) (fun ov _ _ => PA.length - slen ov)
  case atStart => exact ⟨noS, [], PA, x, pb, pa, pe, rfl, rfl, rfl, HCH.out, HPC.out, HM3.out⟩
  case round =>
    clear HM3 HPC HCH
    rename_i ov
    obtain ⟨r, ds, rem, q, pb, pa, pe, rfl, rfl, hPA, hch, hpc, hM⟩ := hrel
    have HM := Hid.mk' hM
    have HPA := Hid.mk' hPA
    obtain ⟨ra, rc, hre⟩ := own_sl hM.row
    obtain ⟨dl, hdl⟩ : ∃ n, n = ds.length := ⟨_, rfl⟩
    rw [← hdl] at hre
    have HDL := Hid.mk' hdl
    subst hre
    by_cases he : pe = 0
    · subst he
      obtain ⟨rem', hr, hch'⟩ : ∃ rem', rem = pb :: rem' ∧ chn p pb rem' := by
        cases rem with
        | nil => exact absurd (by rw [← hpc]) hch
        | cons y l =>
          obtain ⟨-, h2, h3⟩ := hch
          rw [← hpc] at h2
          have h4 : pb = y := h2
          rw [h4]
          exact ⟨l, rfl, h3⟩
      subst hr
      have HYI : Hid (i64 pb) := Hid.mk' (HPN.out.2 pb (by rw [HPA.out]; simp))
      have HDB : Hid (dl + 1 ≤ PA.length) := Hid.mk' (by rw [HPA.out, List.length_append, List.length_cons, hdl]; omega)
      have HCH := Hid.mk' hch'
      have c7 : wr.cell? ⟨g7, 0, none⟩ = some (.int .i64 pb) := hM.up.cell 0
      have HAL : Hid (Grow wr (wr.alloc (.cells #[.int .i64 pb] 3))) := (But.refl _ wr).alloc _
      have HBL : Hid (Blk (wr.alloc (.cells #[.int .i64 pb] 3)) wr.heap.size 3 (numv [pb])) := Blk.new (L := numv [pb]) rfl
      have HRW : Hid (wr.ownsRow 0 3 1 (.slice ra dl rc) dl (numv ds)) := Hid.mk' (by rw [hdl]; exact hdl ▸ hM.row)
      clear hPA hch hpc hch' hM hdl
      go_upto_region 7 with (first
        | (refine wpList_runH rfl (exec_row1 (v := .int .i64 pb) Try.underlying34 infNum (by decide) (by decide) rfl rfl rfl) ?_)
        | (refine wpList_someH rfl (exec_append (v := .slice ra dl rc) (n := dl) (xs := numv ds) (news := numv [pb]) Try.underlying34 infNum rfl (by decide) rfl rfl (ownsRow_grow HRW.out HAL.out) rfl rfl (fun j u hj => HBL.out.cells0 j u hj) (fun u hu => by rw [show u = .int .i64 pb by simpa [numv] using hu]; rfl) (by have := HDB.out; have := HPN.out.1; omega) (by decide)) ?_; intro v4 w4 hap)
        | fail)
      have HM4 := Hid.mk' (HM.out.app HDL.out HAL.out hap)
      obtain ⟨va, vc, e4⟩ := own_sl hap.own
      subst e4
      have c4 : w4.cell? ⟨g7, 0, none⟩ = some (.int .i64 pb) := HM4.out.up.cell 0
      have HP4 := Hid.mk' (HRP.out w4 pb HM4.out.grow HYI.out)
      obtain ⟨⟨qb, qa, qe⟩, hqc⟩ : ∃ pc, pc = p.par pb := ⟨_, rfl⟩
      rw [← hqc] at HP4
      unfold Pc.ret at HP4
      dsimp only at HP4
      have HQC := Hid.mk' hqc
      clear hap hqc c7 HAL HBL HRW HM
      go_wp2_with (first
        | (refine wpList_load_cells rfl _ _ rfl ⟨gp, 0, none⟩ rfl (pcells p v) _ HM4.out.box.pl Try.underlying42 rfl iPl ?_; rw [← HNE.out])
        | fail)
      refine Calls.mono HP4.out ?_
      rintro e w5 ⟨rfl, hg5⟩
      have HM5 := Hid.mk' (HM4.out.then hg5)
      clear hg5 HP4 c4 HM4
      go_wp2_with (first
        | (refine wpList_store_at rfl _ _ _ rfl g7 0 (plc qb qa) rfl rfl 53 [] (plc pb pa) [] (by simpa using HM5.out.up) rfl rfl iPc (plc_one _ _) ?_; intro w6 hb6 hbut6; rw [List.nil_append, List.append_nil] at hb6)
        | fail)
      exact ⟨⟨_, ds ++ [pb], rem', pb, qb, qa, qe, rfl, rfl, by rw [HPA.out]; simp, HCH.out, HQC.out, HM5.out.put hb6 hbut6⟩, by show PA.length - (dl + 1) < PA.length - dl; have := HDB.out; omega⟩
    · have hr : rem = [] := by
        cases rem with
        | nil => rfl
        | cons y l =>
          have h2 := hch.1
          rw [← hpc] at h2
          exact absurd h2 he
      have hb : (pe == 0) = false := by simpa using he
      have HE : Hid (PA = ds) := Hid.mk' (by rw [hPA, hr, List.append_nil])
      have HRW : Hid (Own w wr (.slice ra dl rc) ds) := Hid.mk' ⟨hM.row, fun k hk => (hM.new k hk).1⟩
      clear hPA hch hpc hM hdl hr he
      go_wp2
      exact bodyPost_ret (results_tmp2 rfl _ _ _) rfl ⟨_, rfl, by rw [HE.out]; exact HRW.out, HM.out.grow⟩
end Go.Proofs.Ytidblaepklgkcaa
