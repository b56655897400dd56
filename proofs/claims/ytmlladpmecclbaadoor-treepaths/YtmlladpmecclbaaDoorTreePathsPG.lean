/- TreePaths: the walk. -/
import Derived.Test.YtmlladpmecclbaaDoorAllF
namespace Go.Proofs.YtmlladpmecclbaaDoor
open Go.RowKit

theorem Nb.cap {base : Nat} {w : World} {v : Value} {n : Nat} {G : Nat → Nat} {T : Nat → List Nat} (h : Nb base w v n G T) (h0 : 0 < n) : ∃ b c, v = .slice (some ⟨b, 0, none⟩) n c ∧ n ≤ c := by
  obtain ⟨V, hb⟩ := h.brow (F := fun _ => True) (fun _ _ _ => trivial)
  have hr := hb.row
  rw [show (List.map (fun i => (V i, T i)) (List.range n)).length = n by simp] at hr
  obtain ⟨ao, c4, rfl, h2⟩ := hr.shape
  obtain ⟨g, rfl, _⟩ := h2 h0
  exact ⟨g, c4, rfl, hr.cap.1⟩
/-- As Nb.but, with what it says of its own blocks alone. -/
theorem Nb.but2 {R : Nat → Prop} {base : Nat} {w w' : World} {v : Value} {n : Nat} {G : Nat → Nat} {T : Nat → List Nat} (h : Nb base w v n G T) (k : But R w w') (h1 : ∀ i, i < n → ¬ R (G i)) (h2 : ∀ j, v.ownBlock = some j → ¬ R j) : Nb base w' v n G T := by
  obtain ⟨⟨V, q1, q2⟩, q3, q4, q5⟩ := h
  exact ⟨⟨V, ownsRow_but q1 k h2, fun i hi => (q2 i hi).but k (h1 i hi)⟩, q3, q4, q5⟩
theorem range_getD {L : List (List Nat)} {n : Nat} (h : n = L.length) : (List.range n).map (fun i => L.getD i []) = L := by
  refine eq_of_getD2 (by simp [h]) (fun i hi => ?_)
  have : i < n := by simpa using hi
  simp [List.getD, this]
theorem bldL_len {p : Pn} (h : Mad p) {C : List Bk} (hC : (C.length : Int) = p.counters) (ho : okB C) : ((bldL p.pages C p.levels).length : Int) = p.nodes := by
  have := treeOf_len h hC ho
  unfold treeOf at this
  rw [List.length_append] at this
  have h6 := h.c1
  have h4 := h.nd
  have h7 := (LvC.pos h6.1 h.lv).2
  omega
/-- A byte of a row turned is another row. -/
theorem upd_ne {L : List (List Nat)} {n q : Nat} {zs : List Nat} (hq : q < n) (h : L.getD q [] ≠ zs) : L ≠ (List.range n).map (upd (fun i => L.getD i []) q zs) := fun e => by
  have := congrArg (fun l => l.getD q []) e
  simp only [List.getD, List.getElem?_map, List.getElem?_range hq, Option.map_some, Option.getD_some, upd_same] at this
  exact h this
theorem xor_ne {a b : Nat} (hb : b ≠ 0) : a ^^^ b ≠ a := fun e => hb (by
  have : a ^^^ (a ^^^ b) = a ^^^ a := by rw [e]
  rw [← Nat.xor_assoc, Nat.xor_self, Nat.zero_xor] at this
  exact this)
theorem set_ne {L : List Nat} {m y : Nat} (hm : m < L.length) (h : y ≠ L.getD m 0) : L ≠ L.set m y := fun e => by
  have := congrArg (fun l => l.getD m 0) e
  simp only [List.getD, List.getElem?_set_self hm, Option.getD_some] at this
  exact h this.symm
set_option maxRecDepth 100000 in
set_option maxHeartbeats 30000000 in
theorem treePaths_walk (a0 : Int) (v1 : Value) (z1 : List Nat) (a2 a3 a4 : Int) (w : World) (hk : Kw w) (hh : Hw w) (_h0 : (Lit.int .i64 a0).wf = true) (h1 : Bs w v1 z1 ∧ z1.length ≤ 140737488351232) (_h2 : (Lit.int .i64 a2).wf = true) (_h3 : (Lit.int .i64 a3).wf = true) (h4 : (Lit.int .u8 a4).wf = true) :
    Calls Tryd.prog 3 #[.int .i64 a0, v1, .int .i64 a2, .int .i64 a3, .int .u8 a4] w fun e w' => e = .returned (.bool true) ∧ Below w.heap.size w w' := by
  obtain ⟨by4, hby, hby8⟩ := byte_num h4
  subst hby
  have HK := Hid.mk' hk
  have HH := Hid.mk' hh
  have HMD := Hid.mk' (made_tr (x := a0) h1.1 (by omega))
  obtain ⟨n0, hn0⟩ : ∃ n, n = 1 + (a0 % 300).toNat := ⟨_, rfl⟩
  rw [← hn0] at HMD
  have hn1 : 1 ≤ n0 := by omega
  have hn3 : n0 ≤ 300 := by omega
  obtain ⟨P, hP⟩ : ∃ P, P = plan n0 4 := ⟨_, rfl⟩
  have HPE : Hid (plan n0 4 = P) := hP.symm
  have HPM : Hid (Mad P) := by show Mad P; rw [hP]; exact plan_mad hn1 (by omega)
  have HLV : Hid (Lvl P.counters P.levels) := by show Lvl _ _; rw [hP]; exact plan_lvl hn1 (by omega)
  obtain ⟨c, hc⟩ : ∃ c, c = bg n0 16 := ⟨_, rfl⟩
  have hPc : P.counters = (c : Int) := by rw [hP, hc]; rfl
  have hPg : P.pages = (n0 : Int) := by rw [hP]; rfl
  have hc1 : 1 ≤ c := by rw [hc]; unfold bg; omega
  have hc2 : c ≤ 19 := by rw [hc]; unfold bg; omega
  have HPC := Hid.mk' hPc
  have HPG := Hid.mk' hPg
  have hnums0 : ∀ w1 pv, Own w w1 pv (plan n0 4).levels → Nums w1 pv P.levels := fun w1 pv ho => by rw [hP]; exact (Pm.of hn1 (by omega) ho).nums
  have HNU0 := Hid.mk' hnums0
  have HAW : Hid (∀ w', Grow w w' → Calls Tryd.prog 12 #[] w' fun e w'' => e = .returned (.bool true) ∧ Grow w' w'') := fun w' k => awaket_any (hk.but k (fun h => h)) (hh.but k (fun h => h))
  obtain ⟨Z, hZ⟩ : ∃ Z, Z = u8s z32 := ⟨_, rfl⟩
  have hz := z32v
  rw [← hZ] at hz
  have HZL : Hid (Z.length = 32) := by show _ = _; rw [hZ]; rfl
  have hbg : bg n0 16 = c := hc.symm
  have HBG := Hid.mk' hbg
  obtain ⟨nn, hnn⟩ : ∃ nn : Nat, P.nodes = (nn : Int) := ⟨P.nodes.toNat, by
    have := HPM.out.nd
    have := HPM.out.sum
    have := (LvC.pos HPM.out.c1.1 HPM.out.lv).2
    omega⟩
  have hnn2 : nn ≤ 37 := by
    have := HPM.out.nd
    have := HPM.out.sum
    omega
  have HNN := Hid.mk' hnn
  obtain ⟨fa, fn, fc, rfl⟩ := h1.1.sl
  clear hk hh h1 _h0 _h2 _h3 h4 hn0 hP hc hPc hPg hnums0 hZ hbg hnn
  go_enter Tryd.func3, Tryd.ntmps3
  go_wp2_with fail
  refine Calls.mono HMD.out ?_
  rintro e w1 ⟨⟨pv, v, G, T, rfl, hop, hnb⟩, hg1⟩
  rw [HBG.out] at hnb
  have hnums := HNU0.out w1 pv hop
  obtain ⟨va, ln, vc, rfl⟩ : ∃ va ln vc, pv = .slice va ln vc := by
    obtain ⟨a, b, e⟩ := hop.sl
    exact ⟨a, _, b, e⟩
  obtain ⟨la, lc, hle⟩ := hnb.len
  subst hle
  have HNB1 := Hid.mk' hnb
  have HNU1 := Hid.mk' hnums
  have HG1 := Hid.mk' hg1
  rw [HPE.out]
  clear hop hnb hg1 hnums HMD HNU0
  go_upto_region 2 with (first
    | (refine wpList_runH rfl (exec_allocF rfl (zPl _)) ?_)
    | (refine wpList_store_at rfl _ _ _ rfl w1.heap.size 0 (pcells P (.slice va ln vc)) rfl (by exact rfl) 25 [] (pcells Pn.zero noS) [] (var_new w1) rfl rfl iPl (pcells_one _ rfl) ?_; intro w2 hb2 hbut2; rw [List.nil_append, List.append_nil] at hb2)
    | fail)
  obtain ⟨g11, hg11⟩ : ∃ g, g = w1.heap.size := ⟨_, rfl⟩
  have hg2 := var_grow hbut2
  rw [← hg11] at hb2 ⊢
  have HBP := Hid.mk' hb2
  have HG2 := Hid.mk' (HG1.out.trans hg2)
  have HNU2 := Hid.mk' (HNU1.out.grow hg2)
  have HNB2 := Hid.mk' (HNB1.out.grow hg2)
  obtain ⟨C, hC⟩ : ∃ C, C = (List.range c).map T := ⟨_, rfl⟩
  have HCL : Hid (C.length = c) := by show _ = _; rw [hC]; simp
  have HCO : Hid (okB C) := fun y hy => by
    rw [hC] at hy
    obtain ⟨i, hi, rfl⟩ := List.mem_map.1 hy
    obtain ⟨V, -, hV⟩ := HNB2.out.ex
    obtain ⟨_, _, _, _, h3, h4, _⟩ := hV i (List.mem_range.1 hi)
    exact ⟨h3, h4⟩
  have HCN : Hid ((C.length : Int) = P.counters) := by show _ = _; rw [HCL.out, HPC.out]
  have HPS : Hid (∀ w', Grow w2 w' → Ps w' (.slice la c lc) C) := fun w' k => by rw [hC]; exact (HNB2.out.grow k).ps
  have HNW := Hid.mk' (new_any (w := w2) (fun _ => .none) (fun _ _ => rfl))
  clear hb2 hbut2 hg2 hg11 HNU1 HNB1 hC
  go_wp2_with fail
  refine Calls.mono HNW.out ?_
  rintro e w3 ⟨gl, rfl, hgl, hg3, hl3'⟩
  have hnew := own_new hgl
  generalize tagAt (fun _ => Tag.none) gl .log = own3 at *
  have hlo : LgO w3 own3 (.pointer (some ⟨gl, 0, none⟩)) [] := .inr ⟨gl, rfl, hl3'⟩
  obtain ⟨R, hR⟩ : ∃ R, R = rootOf P C := ⟨_, rfl⟩
  have HRW : Hid (wf32 R) := by show wf32 R; rw [hR]; exact bd_wf _ _
  obtain ⟨RN, hRN⟩ : ∃ RN, RN = (u8s R).toArray := ⟨_, rfl⟩
  have hdk : dkey R = .agg RN := by rw [hRN]; rfl
  have hbd := build_any (pv := .slice va ln vc) (v := .slice la c lc) (C := C) hlo HPM.out HLV.out (fun w' k => by
    have kk : Grow w2 w' := hg3.then k (fun i hi e => absurd (hnew i e) (by omega))
    exact ⟨HK.out.but (HG2.out.trans kk) (fun h => h), HH.out.but (HG2.out.trans kk) (fun h => h), HPS.out w' kk⟩) HCN.out HCO.out (by decide)
  rw [← hR, hdk] at hbd
  unfold pval at hbd
  obtain ⟨N, hN⟩ : ∃ N, N = (pcells P (.slice va ln vc)).toArray := ⟨_, rfl⟩
  rw [← hN] at hbd
  have HN := Hid.mk' hN
  have HBD := Hid.mk' hbd
  have HRE := Hid.mk' hR
  have HRN := Hid.mk' hRN
  have HDK := Hid.mk' hdk
  have HNEW3 := Hid.mk' hnew
  have HG3 := Hid.mk' hg3
  have HLD3 := Hid.mk' (HBP.out.but hg3 (fun h => h))
  clear hgl hg3 hl3' hlo hnew hR hRN hdk hbd hN HNW
  go_wp2_with (first
    | (refine wpList_load_cells rfl _ _ rfl ⟨g11, 0, none⟩ rfl (pcells P (.slice va ln vc)) _ HLD3.out.pl Tryd.underlying25 rfl iPl ?_)
    | fail)
  rw [← HN.out]
  refine Calls.mono HBD.out ?_
  rintro e w4 ⟨nv, rfl, hbt⟩
  have hgo4 : Grow w2 w4 := HG3.out.then hbt.but (fun i hi e => absurd (HNEW3.out i e) (by omega))
  obtain ⟨own4, Q, L, -, hfr4, hlg4, hq4, hql4, hbr4, hLe4⟩ := hbt.ex
  rw [List.nil_append] at hlg4
  have hnew4 : ∀ b, own4 b ≠ .none → w2.heap.size ≤ b := fun b hb => by
    by_cases he : own4 b = own3 b
    · exact HNEW3.out b (by rw [← he]; exact hb)
    · exact Nat.le_trans HG3.out.size (hfr4 b he)
  have hps4 : Ps w4 nv (bldL P.pages C P.levels) := by rw [← hLe4]; exact hbr4.ps
  have hLn : (bldL P.pages C P.levels).length = nn := by
    have := bldL_len HPM.out HCN.out HCO.out
    have := HNN.out
    omega
  obtain ⟨BL, hBL⟩ : ∃ BL, BL = bldL P.pages C P.levels := ⟨_, rfl⟩
  rw [← hBL] at hps4 hLn
  have HBL := Hid.mk' hBL
  have HLN : Hid (BL.length = nn) := hLn
  obtain ⟨na, nc, hnv, -⟩ := hps4.gen
  rw [hLn] at hnv
  subst hnv
  have HPS4 := Hid.mk' hps4
  have HLG4 := Hid.mk' hlg4
  have HQ4 := Hid.mk' hq4
  have HNEW4 := Hid.mk' hnew4
  have HGO4 := Hid.mk' hgo4
  have HTOP4 := Hid.mk' hlg4.top
  clear hbt hgo4 hfr4 hlg4 hq4 hbr4 hLe4 hnew4 hps4 hLn hBL HBD HLD3 HNEW3 HG3
  obtain ⟨g15, hg15⟩ : ∃ g, g = w4.heap.size := ⟨_, rfl⟩
  have HBZ : Hid (Blk (w4.alloc (.cells Z.toArray 31)) w4.heap.size 31 Z) := Blk.new rfl
  go_upto_region 4 with (first
    | (refine wpList_store_u8s i32 rfl _ _ rfl w4.heap.size R HRW.out.1 rfl (by rw [HRN.out]; rfl) Z HZL.out HBZ.out ?_; intro w5 hb5 hbut5)
    | fail)
  have hg5 : Grow w4 w5 := ((But.refl _ w4).alloc _).then hbut5 (fun i hi e => by omega)
  rw [← hg15] at hb5 ⊢
  have HB5 := Hid.mk' hb5
  have HG45 := Hid.mk' hg5
  have HG5 := Hid.mk' (HGO4.out.trans hg5)
  have HLG5 := Hid.mk' (HLG4.out.grow hg5)
  have HPS5 := Hid.mk' (HPS4.out.below hg5)
  have HO15 : Hid (own4 g15 = .none) := HTOP4.out g15 (by omega)
  clear hb5 hbut5 hg5 HBZ HLG4 HPS4 hz HZL
  have hpk := fun w' => pick_any a2 n0 w' (by omega) (by omega)
  obtain ⟨x, hx⟩ : ∃ x, x = a2 % (n0 : Int) := ⟨_, rfl⟩
  rw [← hx] at hpk
  have hx0 : 0 ≤ x := by rw [hx]; exact Int.emod_nonneg _ (by omega)
  have hx1 : x < n0 := by rw [hx]; exact Int.emod_lt_of_pos _ (by omega)
  have HHAS : Hid (P.has x = true) := by
    show _ = _
    unfold Pn.has
    rw [HPG.out]
    exact decide_eq_true ⟨hx0, hx1⟩
  have HPK := Hid.mk' hpk
  have HCC : Hid (∀ w', Grow w2 w' → w'.cell? ⟨g11, 0, none⟩ = some (.int .i64 (n0 : Int)) ∧ w'.cell? ⟨g11, 4, none⟩ = some (.int .i64 (nn : Int))) := fun w' k => by
    have h0 := (HBP.out.but k (fun h => h)).cell 0
    have h4 := (HBP.out.but k (fun h => h)).cell 4
    rw [h0, h4, ← HPG.out, ← HNN.out]
    exact ⟨rfl, rfl⟩
  have c0 := (HCC.out w5 HG5.out).1
  clear hpk hx hg15
  go_wp2_with fail
  refine Calls.mono (HPK.out w5) ?_
  rintro e w6 ⟨rfl, hw6⟩
  subst w6
  clear c0 HPK
  obtain ⟨g43, hg43⟩ : ∃ g, g = w5.heap.size := ⟨_, rfl⟩
  have HR0 : Hid ((w5.alloc (.cells #[] 22)).ownsRow 0 22 1 (.slice (some ⟨w5.heap.size, 0, none⟩) 0 0) 0 []) := row0_own w5 _ rfl
  have HGA : Hid (Grow w5 (w5.alloc (.cells #[] 22))) := (But.refl _ w5).alloc _
  have HPC5 := Hid.mk' (HPS.out w5 HG5.out)
  go_upto_region 5 with fail
  go_upto_region 6 with (first
    | (refine wpList_runH rfl (exec_row0 rfl) ?_)
    | (refine wpList_someH rfl (exec_appendP (w0 := w5) (v := .slice (some ⟨w5.heap.size, 0, none⟩) 0 0) (u := .slice la c lc) (n := 0) (xs := []) (xss := C) rfl rfl HR0.out rfl HGA.out HPC5.out (by have := HCL.out; omega)) ?_; intro v6 w6 hap6; obtain ⟨L6, he6, hbs6, how6, hgr6, hnw6⟩ := ps_app (L := []) rfl HGA.out (fun e he => absurd he List.not_mem_nil) (fun k hk => by have hk' : some w5.heap.size = some k := hk; have := Option.some.inj hk'; omega) hap6; clear hap6)
    | (refine wpList_someH rfl (exec_appendP (w0 := w5) (v := v6) (u := .slice na nn nc) (n := L6.length) (xs := L6.map (·.1)) (xss := BL) rfl rfl how6 rfl hgr6 HPS5.out (by have := HLN.out; have := HCL.out; have := congrArg List.length he6; simp at this; omega)) ?_; intro v7 w7 hap7)
    | fail)
  obtain ⟨L7, he7, hbs7, how7, hgr7, -⟩ := ps_app (L := L6) rfl hgr6 hbs6 hnw6 hap7
  have hps7 := ps_row how7 (fun e he => (hbs7 e he).but hgr7 (fun _ _ _ h => h))
  rw [he7, he6, List.map_nil, List.nil_append, HBL.out, show C ++ bldL P.pages C P.levels = treeOf P C from rfl] at hps7
  have HG7 := Hid.mk' (HG5.out.trans hgr7)
  have HG47 := Hid.mk' (HG45.out.trans hgr7)
  have HLG7 := Hid.mk' (HLG5.out.grow hgr7)
  have HB157 := Hid.mk' (HB5.out.but hgr7 (fun h => h))
  have HTO : Hid (okB (treeOf P C)) := (treeOf_rule HPM.out HCN.out HCO.out).ok
  have HTL := Hid.mk' (treeOf_len HPM.out HCN.out HCO.out)
  obtain ⟨n, hn⟩ : ∃ n, n = (P.path x).length := ⟨_, rfl⟩
  have hlp := lpath_any (pv := .slice va ln vc) HPM.out (HNU2.out.grow HG7.out) HHAS.out hps7 HTL.out HTO.out
  unfold pval at hlp
  rw [← HN.out, ← hn] at hlp
  have HLP := Hid.mk' hlp
  have hn24 : 2 ≤ n ∧ n ≤ 4 := by rw [hn]; exact (HPM.out.stps HHAS.out).len
  have HNP := Hid.mk' hn
  obtain ⟨ta, tc, hve, -⟩ := hps7.gen
  generalize (treeOf P C).length = tn at hve
  subst hve
  have c4 := (HCC.out w7 HG7.out).2
  have hnne : ((nn : Int) != (nn : Int)) = false := by simp
  have HLD7 := Hid.mk' (HBP.out.but HG7.out (fun h => h))
  clear hap7 he6 hbs6 how6 hgr6 hnw6 he7 hbs7 how7 hgr7 hps7 hlp hn HR0 HGA HPC5 HPS5 HLG5 HB5 hg43
  go_wp2_with (first
    | (refine wpList_load_cells rfl _ _ rfl ⟨g11, 0, none⟩ rfl (pcells P (.slice va ln vc)) _ HLD7.out.pl Tryd.underlying25 rfl iPl ?_)
    | fail)
  rw [← HN.out]
  refine Calls.mono HLP.out ?_
  rintro e w8 ⟨xv, GX, rfl, hnx, hg8⟩
  obtain ⟨TR, hTR⟩ : ∃ TR, TR = trP P (treeOf P C) x := ⟨_, rfl⟩
  have htl : n = TR.length := by rw [hTR, trP_len]; exact HNP.out
  have hgood : Good P (P.path x) TR R := by rw [hTR, HRE.out]; exact good_built HPM.out HCN.out HCO.out HHAS.out
  have hTok : okB TR := by rw [hTR]; exact trP_ok HPM.out HCN.out HCO.out HHAS.out
  rw [← hTR] at hnx
  clear hTR
  have HTLN := Hid.mk' htl
  have HTOK := Hid.mk' hTok
  have HGOOD := Hid.mk' hgood
  obtain ⟨xb, xc, hve, hxc⟩ := hnx.cap (by omega)
  subst hve
  have hlow : ∀ b, own4 b ≠ .none → b < w4.heap.size := fun b hb => HTOP4.out.lt hb
  have hs47 : w4.heap.size ≤ w7.heap.size := HG47.out.size
  have HLOW : Hid (∀ b, own4 b ≠ .none → b < w7.heap.size) := fun b hb => Nat.lt_of_lt_of_le (hlow b hb) hs47
  have HG8 := Hid.mk' (HG7.out.trans hg8)
  have hgo8 : ∀ w', But (fun b => own4 b ≠ .none) w8 w' → Grow w2 w' := fun w' k => HG8.out.then k (fun i hi e => absurd (HNEW4.out i e) (by omega))
  have HGO8 := Hid.mk' hgo8
  have HNX8 := Hid.mk' hnx
  have HLG8 := Hid.mk' (HLG7.out.grow hg8)
  have HPX : Hid (∀ w', But (fun b => own4 b ≠ .none) w8 w' → Ps w' (.slice (some ⟨xb, 0, none⟩) n xc) TR) := fun w' k => by
    have := (HNX8.out.but k (fun j hj _ e => by have := HLOW.out j e; omega)).ps
    rw [range_getD HTLN.out] at this
    exact this
  have HCAP : Hid (∀ ao m c, (Value.slice (some ⟨xb, 0, none⟩) n xc) = .slice ao m c → m ≤ c) := fun ao m c e => by
    simp only [Value.slice.injEq] at e
    omega
  have hck := chk_all (pv := .slice va ln vc) (v := .slice (some ⟨xb, 0, none⟩) n xc) (x := x) (path := TR) (root := R) HLG8.out HPM.out (HNU2.out.grow HG8.out) (fun w' k => ⟨HK.out.but (HG2.out.trans (HGO8.out w' k)) (fun h => h), HH.out.but (HG2.out.trans (HGO8.out w' k)) (fun h => h), HPX.out w' k⟩) HCAP.out (by have := HTLN.out; omega) HRW.out (by omega)
  unfold pval at hck
  rw [← HN.out, HDK.out] at hck
  have HCK := Hid.mk' hck
  have HLD8 := Hid.mk' (HBP.out.but HG8.out (fun h => h))
  have HB158 := Hid.mk' (HB157.out.but hg8 (fun h => h))
  have HG157 : Hid (g15 < w7.heap.size) := HB157.out.lt
  clear hnx hg8 hlow hs47 hgo8 hck htl hgood hTok HLP HLD7 HLG7 HB157 c4 hnne
  go_wp2_with (first
    | (refine wpList_load_cells rfl _ _ rfl ⟨g11, 0, none⟩ rfl (pcells P (.slice va ln vc)) _ HLD8.out.pl Tryd.underlying25 rfl iPl ?_)
    | (refine wpList_load_u8s ukt i32 rfl _ rfl g15 R HRW.out.1 rfl HB158.out ?_)
    | fail)
  rw [← HN.out, ← HRN.out]
  refine Calls.mono HCK.out ?_
  rintro e w9 ⟨r1, rfl, hr1, hto1⟩
  obtain rfl : r1 = 0 := hr1.uniq (.inr (.inr (.inl ⟨⟨HHAS.out, by rw [← HTLN.out]; exact HNP.out, whl_of (fun y hy => (HTOK.out y hy).1)⟩, HGOOD.out, rfl⟩)))
  obtain ⟨own9, hext9, hfr9, hlg9⟩ := hto1.ex
  rw [show noteC P x TR 0 = noteB (P.path x) TR TR.length by unfold noteC; rw [if_pos rfl]] at hlg9
  have HG9 := Hid.mk' (HGO8.out w9 hto1.but)
  have hnx9 := HNX8.out.but hto1.but (fun j hj _ e => by have := HLOW.out j e; omega)
  have hb159 := HB158.out.but hto1.but (fun e => e HO15.out)
  have HNX9 := Hid.mk' hnx9
  have HB159 := Hid.mk' hb159
  have HLG9 := Hid.mk' hlg9
  have HS8 : Hid (w8.heap.size ≤ w9.heap.size) := hto1.but.size
  have HS7 : Hid (w7.heap.size ≤ w8.heap.size) := by
    show _ ≤ _
    obtain ⟨V, -, hV⟩ := HNX8.out.ex
    have h1 := (hV 0 (by omega)).lt
    have h2 := HNX8.out.gnew 0 (by omega)
    omega
  have HNEW9 : Hid (∀ b, own9 b ≠ .none → w2.heap.size ≤ b ∧ (b < w7.heap.size ∨ w8.heap.size ≤ b)) := fun b hb => by
    by_cases he : own9 b = own4 b
    · rw [he] at hb
      exact ⟨HNEW4.out b hb, .inl (HLOW.out b hb)⟩
    · have := hfr9 b he
      exact ⟨Nat.le_trans HG8.out.size this, .inr this⟩
  have HGX8 : Hid ((∀ i, i < n → GX i < w8.heap.size) ∧ xb < w8.heap.size) := by
    obtain ⟨V, -, hV⟩ := HNX8.out.ex
    exact ⟨fun i hi => (hV i hi).lt, (HNX8.out.row.lt xb rfl).2⟩
  have HX7 : Hid (w7.heap.size ≤ xb) := (HNX8.out.rnew xb rfl).1
  have HO159 : Hid (own9 g15 = .none) := by
    show _ = _
    by_cases he : own9 g15 = own4 g15
    · rw [he]; exact HO15.out
    · have h1 := hfr9 g15 he
      have h2 := HB158.out.lt
      omega
  have HQ9 : Hid (Hq (noteB (P.path x) TR TR.length)) := Hq.noteB (fun y hy => by have := (HTOK.out y hy).1; omega) _
  clear hr1 hto1 hext9 hfr9 hlg9 hnx9 hb159 HCK HLD8 HNX8 HB158 HLG8 HPX HGO8
  by_cases hb0 : by4 = 0
  · have e0 : (((by4 : Nat) : Int) == 0) = true := by rw [hb0]; rfl
    clear hb0
    go_wp2_with fail
    refine Calls.mono (HAW.out w9 (HG2.out.trans HG9.out)) ?_
    rintro e wa ⟨rfl, hga⟩
    go_wp2
    go_ret
    exact ⟨rfl, ((HG2.out.trans HG9.out).trans hga).below (Nat.le_refl _) (fun _ _ h => h)⟩
  have e0 : (((by4 : Nat) : Int) == 0) = false := by
    have : ((by4 : Nat) : Int) ≠ 0 := by omega
    simpa using this
  obtain ⟨M, hM⟩ : ∃ M, M = 256 * n := ⟨_, rfl⟩
  have hM8 : M ≤ 1024 := by omega
  have hM0 : 0 < M := by omega
  have hpk := fun w' => pick_any a3 M w' (by omega) (by omega)
  obtain ⟨k, hk, hkc⟩ : ∃ k : Nat, a3 % (M : Int) = (k : Int) ∧ k < M := ⟨(a3 % (M : Int)).toNat, by have := Int.emod_nonneg a3 (b := (M : Int)) (by omega); omega, by have := Int.emod_lt_of_pos a3 (b := (M : Int)) (by omega); have := Int.emod_nonneg a3 (b := (M : Int)) (by omega); omega⟩
  rw [hk] at hpk
  have HPK := Hid.mk' hpk
  have hmul : IntKind.i64.wrap (256 * (n : Int)) = (M : Int) := by rw [wrapI (by omega) (by omega)]; omega
  have HM := Hid.mk' hM
  clear hpk hk hM
  go_wp2_with fail
  refine Calls.mono (HPK.out w9) ?_
  rintro e wa ⟨rfl, hwa⟩
  subst wa
  clear HPK hmul e0
  obtain ⟨q, hq⟩ : ∃ q, q = k / 256 := ⟨_, rfl⟩
  obtain ⟨m, hm⟩ : ∃ m, m = k % 256 := ⟨_, rfl⟩
  have hdq : Int.tdiv (k : Int) 256 = (q : Int) := by rw [Int.tdiv_eq_ediv_of_nonneg (by omega)]; omega
  have hmq : Int.tmod (k : Int) 256 = (m : Int) := by rw [Int.tmod_eq_emod_of_nonneg (by omega)]; omega
  have hqn : q < n := by have := HM.out; omega
  have hm8 : m < 256 := by omega
  have hm8i : (m : Int) < 256 := by omega
  have hqni : (q : Int) < (n : Int) := by omega
  have hwq : IntKind.i64.wrap (q : Int) = (q : Int) := wrapN q (by omega)
  obtain ⟨b', rc, cap, RR, hv, hcl, h256, hbk, hl, hzt, hne, hge, hset⟩ := HNX9.out.opn hqn
  simp only [Value.slice.injEq, Option.some.injEq, Addr.mk.injEq, and_true, true_and] at hv
  obtain ⟨rfl, rfl⟩ := hv
  obtain ⟨gq, hgq⟩ : ∃ g, g = GX q := ⟨_, rfl⟩
  rw [← hgq] at hcl hbk hne hge hset
  obtain ⟨zs, hzs⟩ : ∃ zs, zs = TR.getD q [] := ⟨_, rfl⟩
  simp only [← hzs] at hbk hl hzt
  obtain ⟨a, ha⟩ : ∃ a, a = zs.getD m 0 := ⟨_, rfl⟩
  have ha8 : a < 256 := by rw [ha]; exact hzt _ (getD_mem _ _ (by omega))
  have hxy : bits .xor .u8 (a : Int) (by4 : Int) = ((a ^^^ by4 : Nat) : Int) := u8_xor_nat a by4 ha8 hby8
  have hy8 := xorb a by4 ha8 hby8
  obtain ⟨y, hy⟩ : ∃ y, y = a ^^^ by4 := ⟨_, rfl⟩
  have hya : y ≠ a := by rw [hy]; exact xor_ne hb0
  rw [← hy] at hxy hy8
  have hcm : w9.cell? ⟨gq, m, none⟩ = some (.int .u8 (a : Int)) := by
    rw [hbk.cell, List.getElem?_append_left (by simp [u8s]; omega), u8s_get _ _ (by omega), ha]
  have HCX : Hid (∀ w', Grow w9 w' → w'.cell? ⟨xb, q, none⟩ = some (.slice (some ⟨gq, 0, none⟩) 256 cap)) := fun w' k => grow_cell k hcl
  have HCM : Hid (∀ w', Grow w9 w' → w'.cell? ⟨gq, m, none⟩ = some (.int .u8 (a : Int))) := fun w' k => grow_cell k hcm
  have HBK : Hid (∀ w', Grow w9 w' → Blk w' gq 5 (u8s zs ++ RR)) := fun w' k => hbk.but k (fun h => h)
  have HZL : Hid (zs.length = 256) := hl
  have HZT := Hid.mk' hzt
  have HYA : Hid (y ≠ zs.getD m 0) := by show _ ≠ _; rw [← ha]; exact hya
  have HY8 := Hid.mk' hy8
  have HZS := Hid.mk' hzs
  have HSET := Hid.mk' hset
  have HGE := Hid.mk' hge
  have HGQ := Hid.mk' hgq
  have HGL := Hid.mk' hbk.lt
  have HQN : Hid (q < n) := hqn
  have HHM : Hid (m < 256) := hm8
  clear hq hm hcl hbk hne hge hset hgq hzs ha hy hl hzt hcm hya ha8
  go_upto_region 14 with fail
  refine region_chain [([0, 1, 2, 3, 4, 5, 6, 7, 8, 9, 10, 11, 12, 13, 14, 15, 16, 17, 18], 19)] [] (Grow w9) (Grow w9) (by kernel_rfl) (by kernel_rfl) (fun _ _ h k => h.trans k) (fun _ h => h) ((But.refl _ w9).drew) ?_
  intro ι hne X hX
  have c1 : ∀ z, (X z).cell? ⟨xb, q, none⟩ = some (.slice (some ⟨gq, 0, none⟩) 256 cap) := fun z => HCX.out (X z) (hX z)
  have c2 : ∀ z, (X z).cell? ⟨gq, m, none⟩ = some (.int .u8 (a : Int)) := fun z => HCM.out (X z) (hX z)
  iterate 19 (refine still_step rfl (fun K hK => ?_); go_simp; refine hK _ ?_; clear hK K)
  refine still_nil ?_
  clear hX hne c1 c2
  refine turn_run rfl rfl (fun _ w' => Blk w' gq 5 (u8s (zs.set m y) ++ RR) ∧ But (· = gq) w9 w') (fun _ _ => True) (fun _ w1 w2 h k => ⟨h.1.but k (fun h => h), h.2.trans (k.mono (fun _ _ h => h.elim))⟩) (fun _ _ _ => trivial) (.inl (by kernel_rfl)) ?_ ?_
  · intro w6 hw6
    have hb6 := HBK.out w6 hw6
    refine turn_store (t := 5) (by kernel_rfl) rfl rfl rfl rfl hb6 (i := m) (by simp [u8s]; have := HZL.out; have := HHM.out; omega) ⟨?_, ?_⟩
    · have := hb6.set m (.int .u8 (y : Int))
      rw [List.set_append_left _ _ (by simp [u8s]; have := HZL.out; have := HHM.out; omega), u8s_set] at this
      exact this
    · exact (hw6.mono (fun _ _ h => h.elim)).trans (But.set1 w6 gq m _)
  rintro z - Y hY
  go_simp
  refine hY _ ?_
  clear hY Y
  intro ι hne X hX
  refine still_nil ?_
  clear hX hne
  rintro wb ⟨hbb, hkb⟩
  have hzl2 : (zs.set m y).length = 256 := by rw [List.length_set]; exact HZL.out
  have hzt2 : ∀ z ∈ zs.set m y, z < 256 := fun z hz => by
    rcases List.mem_or_eq_of_mem_set hz with h | h
    · exact HZT.out z h
    · rw [h]; exact HY8.out
  have hnb := HSET.out wb (zs.set m y) hzl2 hzt2 hbb hkb
  obtain ⟨TQ, hTQ⟩ : ∃ TQ, TQ = (List.range n).map (upd (fun i => TR.getD i []) q (zs.set m y)) := ⟨_, rfl⟩
  have hqne : TR ≠ TQ := by
    rw [hTQ]
    exact upd_ne HQN.out (by rw [← HZS.out]; exact set_ne (by rw [HZL.out]; exact HHM.out) HYA.out)
  have hTQl : TQ.length = n := by rw [hTQ]; simp
  have hTQw : ∀ z ∈ TQ, z.length = 256 := fun z hz => by
    rw [hTQ] at hz
    obtain ⟨i, hi, rfl⟩ := List.mem_map.1 hz
    have hi' := List.mem_range.1 hi
    unfold upd
    by_cases hiq : i = q
    · rw [if_pos hiq]; exact hzl2
    · rw [if_neg hiq]
      have hl : i < TR.length := by rw [← HTLN.out]; exact hi'
      exact (HTOK.out _ (by simp [List.getD, hl])).1
  have hogq : own9 gq = .none := by
    by_cases he : own9 gq = .none
    · exact he
    · have h1 := (HNEW9.out gq he).2
      have h2 := HGX8.out.1 q HQN.out
      rw [← HGQ.out] at h2
      have := HGE.out
      omega
  have hgb : Grow w2 wb := HG9.out.then hkb (fun i hi e => by have := HGE.out; have := HG7.out.size; omega)
  have hlgb := HLG9.out.but hkb (fun b hb e => hb (by rw [e]; exact hogq))
  have hgob : ∀ w', But (fun b => own9 b ≠ .none) wb w' → Grow w2 w' := fun w' k => hgb.then k (fun i hi e => absurd (HNEW9.out i e).1 (by omega))
  have hpsb : ∀ w', But (fun b => own9 b ≠ .none) wb w' → Ps w' (.slice (some ⟨xb, 0, none⟩) n xc) TQ := fun w' k => by
    rw [hTQ]
    refine (hnb.but2 k (fun i hi e => ?_) (fun j hj e => ?_)).ps
    · have h1 := (HNEW9.out _ e).2
      have h2 := HGX8.out.1 i hi
      have h3 := hnb.gnew i hi
      omega
    · have hj' : some xb = some j := hj
      obtain rfl := Option.some.inj hj'
      have h1 := (HNEW9.out _ e).2
      have h2 := HGX8.out.2
      have h3 := HX7.out
      omega
  have hck := chk_all (pv := .slice va ln vc) (v := .slice (some ⟨xb, 0, none⟩) n xc) (x := x) (path := TQ) (root := R) hlgb HPM.out (HNU2.out.grow hgb) (fun w' k => ⟨HK.out.but (HG2.out.trans (hgob w' k)) (fun h => h), HH.out.but (HG2.out.trans (hgob w' k)) (fun h => h), hpsb w' k⟩) HCAP.out (by omega) HRW.out (by rw [List.length_append, noteB_len]; have := HTLN.out; omega)
  unfold pval at hck
  rw [← HN.out, HDK.out] at hck
  have HCK := Hid.mk' hck
  have HLDB := Hid.mk' (HBP.out.but hgb (fun h => h))
  have HB15B : Hid (Blk wb g15 31 (u8s R)) := HB159.out.but hkb (fun e => by have := HG157.out; have := HGE.out; omega)
  have HGOB := Hid.mk' hgob
  have HTQL : Hid (TQ.length = n) := hTQl
  have HTQW := Hid.mk' hTQw
  have HQNE := Hid.mk' hqne
  clear hzl2 hzt2 hnb hTQ hqne hTQl hTQw hogq hgb hlgb hgob hpsb hck hbb hkb hdq hmq hwq hxy hy8 hqn hm8 hm8i hqni HSET HCX HCM HBK HPS
  go_wp2_with (first
    | (refine wpList_load_cells rfl _ _ rfl ⟨g11, 0, none⟩ rfl (pcells P (.slice va ln vc)) _ HLDB.out.pl Tryd.underlying25 rfl iPl ?_)
    | (refine wpList_load_u8s ukt i32 rfl _ rfl g15 R HRW.out.1 rfl HB15B.out ?_)
    | fail)
  rw [← HN.out, ← HRN.out]
  refine Calls.mono HCK.out ?_
  rintro e wc ⟨r2, rfl, hr2, hto2⟩
  obtain ⟨ownc, -, -, hlgc⟩ := hto2.ex
  have HGC := Hid.mk' (HGOB.out wc hto2.but)
  have hfit : Fits P x TQ := ⟨HHAS.out, by rw [HTQL.out]; exact HNP.out, whl_of HTQW.out⟩
  have hr2' : (r2 = 0 ∧ Good P (P.path x) TQ R) ∨ r2 = 10 := by
    rcases hr2 with ⟨h, -⟩ | ⟨-, h | h, -⟩ | ⟨-, hg, rfl⟩ | ⟨-, -, rfl⟩
    · rw [HHAS.out] at h; cases h
    · exact absurd hfit.2.1 h
    · rw [hfit.2.2] at h; cases h
    · exact .inl ⟨rfl, hg⟩
    · exact .inr rfl
  obtain ⟨PP, hPP⟩ : ∃ PP, PP = Q ++ noteB (P.path x) TR TR.length ++ noteC P x TQ r2 := ⟨_, rfl⟩
  rw [← hPP] at hlgc
  have hqq : Hq PP := by rw [hPP]; exact (HQ4.out.app HQ9.out).app (Hq.noteC hr2).1
  have hlg : Lg wc ownc gl PP [] [] := by
    rcases hlgc with ⟨e, _⟩ | ⟨g, e, h⟩
    · cases e
    · have e2 : gl = g := by simpa using e
      rw [e2]; exact h
  have hcl : Calls Tryd.prog 13 #[.pointer (some ⟨gl, 0, none⟩)] wc fun e w' => ∃ va vb bb, e = .returned (.tuple #[va, vb, .bool bb]) ∧ (r2 = 0 → bb = true) ∧ Grow wc w' := by
    refine (clash_any hlg (fun q hq => by have := (hqq q hq).2; omega)).mono ?_
    rintro e wd ⟨hgd, ⟨rfl, hno⟩ | ⟨i, j, va', vb', rfl, -⟩⟩
    · refine ⟨_, _, _, rfl, fun h0 => ?_, hgd⟩
      exfalso
      rcases hr2' with ⟨-, hg⟩ | h
      · obtain ⟨i, j, hij, hjl, hck⟩ := two_paths (P := Q) (Q := []) (R := []) ⟨HHAS.out, by rw [← HTLN.out]; exact HNP.out, whl_of (fun y hy => (HTOK.out y hy).1)⟩ hfit HGOOD.out hg HQNE.out
        rw [List.append_nil, List.append_nil] at hjl hck
        rw [hPP, h0, show noteC P x TQ 0 = noteB (P.path x) TQ TQ.length by unfold noteC; rw [if_pos rfl]] at hno
        have := hno j hjl i hij
        rw [hck] at this
        cases this
      · omega
    · exact ⟨_, _, _, rfl, fun _ => rfl, hgd⟩
  have HCL2 := Hid.mk' hcl
  clear hr2 hto2 hlgc hfit hPP hqq hlg hcl HCK HLDB HB15B HGOB
  go_wp2_with fail
  refine Calls.mono HCL2.out ?_
  rintro e wd ⟨va', vb', bb, rfl, hbb, hgd⟩
  have HAWD := Hid.mk' (HAW.out wd ((HG2.out.trans HGC.out).trans hgd))
  have HGD := Hid.mk' ((HG2.out.trans HGC.out).trans hgd)
  clear hgd HCL2
  rcases hr2' with ⟨rfl, -⟩ | rfl
  · obtain rfl := hbb rfl
    go_wp2_with fail
    refine Calls.mono HAWD.out ?_
    rintro e we ⟨rfl, hge⟩
    go_wp2
    go_ret
    exact ⟨rfl, (HGD.out.trans hge).below (Nat.le_refl _) (fun _ _ h => h)⟩
  · clear hbb
    go_wp2_with fail
    refine Calls.mono HAWD.out ?_
    rintro e we ⟨rfl, hge⟩
    go_wp2
    go_ret
    exact ⟨rfl, (HGD.out.trans hge).below (Nat.le_refl _) (fun _ _ h => h)⟩
end Go.Proofs.YtmlladpmecclbaaDoor
