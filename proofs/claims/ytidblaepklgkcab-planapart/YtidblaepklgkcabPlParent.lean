/- plan: Parent. -/
import Derived.Test.YtidblaepklgkcabPlOf
namespace Go.Proofs.Ytidblaepklgkcab
open Go.RowKit

def dv (a b : Int) : Int := IntKind.i64.wrap (Int.tdiv a b)
abbrev plc (a b : Int) : List Value := [.int .i64 a, .int .i64 b]
structure Pc where
  block : Int
  at' : Int
  e : Int
def Pc.ret (x : Pc) : Value := .tuple #[.agg (plc x.block x.at').toArray, .int .i64 x.e]
def parGo (b t : Int) : Int → Int → List Int → Pc
  | _, _, [] => if b = t then ⟨0, 0, 5⟩ else ⟨0, 0, 1⟩
  | first, many, a :: ls => if sb b first < many then ⟨ad (ad first many) (dv (sb b first) 8), Int.tmod (sb b first) 8, 0⟩ else parGo b t (ad first many) a ls
theorem parGo_nil (b t f m : Int) : parGo b t f m [] = if b = t then ⟨0, 0, 5⟩ else ⟨0, 0, 1⟩ := rfl
theorem parGo_cons (b t f m a : Int) (ls : List Int) : parGo b t f m (a :: ls) = if sb b f < m then ⟨ad (ad f m) (dv (sb b f) 8), Int.tmod (sb b f) 8, 0⟩ else parGo b t (ad f m) a ls := rfl
def Pn.par (p : Pn) (b : Int) : Pc := if b < 0 then ⟨0, 0, 1⟩ else if b < p.pages then ⟨ad p.pages (dv b 16), b % 16, 0⟩ else parGo b p.top p.pages p.counters p.levels
theorem iPc : (Try.prog.info? 30).map (·.size) = some 2 := by kernel_rfl
theorem zPc (w : World) : (zeroValue 30).run Try.prog w = .ok (.agg (plc 0 0).toArray) w := by kernel_rfl
theorem bldPc (a b : Int) (w : World) : (Instr.build 30 #[(0, .int .i64 a), (1, .int .i64 b)]).run Try.prog w = .ok (.agg (plc a b).toArray) w := by kernel_rfl
theorem plc_one (a b : Int) : ∀ u ∈ plc a b, u.oneCell' = true := by
  intro u hu
  simp only [List.mem_cons, List.not_mem_nil, or_false] at hu
  rcases hu with rfl | rfl <;> rfl
/-- What memory is at Parent's begin: the plan in a box, a place for the answer. -/
structure ParM (w : World) (p : Pn) (v : Value) (g0 g1 : Nat) (W : World) : Prop where
  box : Blk W g0 24 (pcells p v)
  ans : Blk W g1 30 (plc 0 0)
  grow : Grow w W
  ne : w.heap.size ≤ g1
theorem par_begin (w : World) (p : Pn) (v : Value) : ∃ W0 W1 g0 g1, W0 = w.alloc (.cells (pcells p v).toArray 24) ∧ g0 = w.heap.size ∧ W1 = W0.alloc (.cells (plc 0 0).toArray 30) ∧ g1 = W0.heap.size ∧ ParM w p v g0 g1 W1 := by
  have g : Grow w (w.alloc (.cells (pcells p v).toArray 24)) := (But.refl _ w).alloc _
  exact ⟨_, _, _, _, rfl, rfl, rfl, rfl, (Blk.new rfl : Blk (w.alloc (.cells (pcells p v).toArray 24)) w.heap.size 24 (pcells p v)).but ((But.refl (fun _ => False) _).alloc _) (fun h => h), Blk.new rfl, g.alloc _, g.size⟩
theorem ParM.fin {w : World} {p : Pn} {v : Value} {g0 g1 : Nat} {W w' w2 : World} (h : ParM w p v g0 g1 W) (k : Grow W w') (k2 : But (· = g1) w' w2) : Grow w w2 :=
  (h.grow.trans k).then k2 (fun j hj e => by have := h.ne; omega)
set_option maxRecDepth 100000 in
set_option maxHeartbeats 2000000 in
theorem parent_any (w : World) (p : Pn) (v : Value) (b : Int) (hv : Nums w v p.levels) (hlen : p.levels.length ≤ 100000) : Calls Try.prog 7 #[pval p v, .int .i64 b] w fun e w' => e = .returned (p.par b).ret ∧ Grow w w' := by
  obtain ⟨W0, W1, g0, g1, hW0, hg0, hW1, hg1, hM⟩ := par_begin w p v
  have HW0 := Hid.mk' hW0
  have HG0 := Hid.mk' hg0
  have HW1 := Hid.mk' hW1
  have HG1 := Hid.mk' hg1
  have HM := Hid.mk' hM
  have HV := Hid.mk' hv
  have HLN := Hid.mk' hlen
  have HTP := Hid.mk' (fun w => top_any w p v)
  have c0 : W1.cell? ⟨g0, 0, none⟩ = some (.int .i64 p.pages) := hM.box.cell 0
  have c2 : W1.cell? ⟨g0, 2, none⟩ = some (.int .i64 p.counters) := hM.box.cell 2
  have c3 : W1.cell? ⟨g0, 3, none⟩ = some v := hM.box.cell 3
  unfold Pn.par
  generalize hpg : p.pages = a0 at c0 ⊢
  generalize hct : p.counters = a2 at c2 ⊢
  generalize htp : p.top = tp at HTP ⊢
  generalize hlv : p.levels = ls at HV HLN ⊢
  obtain ⟨la, lc, hve⟩ := HV.out.len
  obtain ⟨ln, hln⟩ : ∃ ln, ln = ls.length := ⟨_, rfl⟩
  rw [← hln] at hve HLN
  have HLE := Hid.mk' hln
  unfold pval
  obtain ⟨N, hN⟩ : ∃ N, N = (pcells p v).toArray := ⟨_, rfl⟩
  rw [← hN] at HW0 ⊢
  have HNN := Hid.mk' hN
  clear hW0 hg0 hW1 hg1 hM hv hlen hln hN hpg hct htp hlv
  subst hve
  by_cases h0 : b < 0
  · rw [if_pos h0]
    go_enter Try.func7, Try.ntmps7
    go_upto_region 1 with (first
      | (refine wpList_runH rfl (exec_allocF rfl (zPc _)) ?_; rw [← HW0.out, ← HG0.out, ← HW1.out, ← HG1.out])
      | fail)
    clear HW0 HG0 HW1 HG1
    go_wp2_with (first
      | (refine wpList_store_at rfl _ _ _ rfl g1 0 (plc 0 0) rfl rfl 30 [] (plc 0 0) [] (by simpa using HM.out.ans) rfl rfl iPc (plc_one _ _) ?_; intro w3 hb3 hbut3; rw [List.nil_append, List.append_nil] at hb3)
      | fail)
    exact bodyPost_ret (results_plan_tmp rfl _ _ g1 _ _ _ _ rfl hb3 Try.underlying30 rfl iPc rfl) rfl ⟨rfl, HM.out.fin (But.refl _ _) hbut3⟩
  · rw [if_neg h0]
    by_cases h1 : b < a0
    · rw [if_pos h1]
      obtain ⟨q, hq⟩ : ∃ q, q = dv b 16 := ⟨_, rfl⟩
      obtain ⟨t, ht⟩ : ∃ t, t = ad a0 q := ⟨_, rfl⟩
      rw [← hq, ← ht]
      have e1 : IntKind.i64.wrap (b.tdiv 16) = q := hq.symm
      have e2 : IntKind.i64.wrap (a0 + q) = t := ht.symm
      clear hq ht
      go_enter Try.func7, Try.ntmps7
      go_upto_region 4 with (first
        | (refine wpList_runH rfl (exec_allocF rfl (zPc _)) ?_; rw [← HW0.out, ← HG0.out, ← HW1.out, ← HG1.out])
        | fail)
      clear HW0 HG0 HW1 HG1
      go_wp2_with (first
        | (refine wpList_store_at rfl _ _ _ rfl g1 0 (plc t (b % 16)) rfl rfl 30 [] (plc 0 0) [] (by simpa using HM.out.ans) rfl rfl iPc (plc_one _ _) ?_; intro w3 hb3 hbut3; rw [List.nil_append, List.append_nil] at hb3)
        | fail)
      exact bodyPost_ret (results_plan_tmp rfl _ _ g1 _ _ _ _ rfl hb3 Try.underlying30 rfl iPc rfl) rfl ⟨rfl, HM.out.fin (But.refl _ _) hbut3⟩
    · rw [if_neg h1]
      go_enter Try.func7, Try.ntmps7
      go_upto_region 5 with (first
        | (refine wpList_runH rfl (exec_allocF rfl (zPc _)) ?_; rw [← HW0.out, ← HG0.out, ← HW1.out, ← HG1.out])
        | fail)
      clear HW0 HG0 HW1 HG1
      have HC0 := Hid.mk' c0
      have HC2 := Hid.mk' c2
      have HC3 := Hid.mk' c3
      clear c0 c2 c3
      refine region_chain [] [0, 1, 2, 3, 4, 5] (Grow W1) (Grow W1) (by kernel_rfl) (by kernel_rfl) (fun _ _ h k => h.trans k) (fun _ h => h) ((But.refl _ W1).drew) ?_
      intro ι hne X hX
      have d0 : ∀ z, (X z).cell? ⟨g0, 0, none⟩ = some (.int .i64 a0) := fun z => grow_cell (hX z) HC0.out
      have d2 : ∀ z, (X z).cell? ⟨g0, 2, none⟩ = some (.int .i64 a2) := fun z => grow_cell (hX z) HC2.out
      iterate 6 (refine still_step rfl (fun K hK => ?_); go_simp; refine hK _ ?_; clear hK K)
      refine still_nil ?_
      clear hX hne d0 d2
      intro w2 hw2
      have HG2 := Hid.mk' hw2
      have c3 := grow_cell hw2 HC3.out
      clear hw2 HC0 HC2 HC3
      go_wp2
      have hlni : (ln : Int) ≤ 100000 := by have := HLN.out; omega
      go_loopw [6, 7, 35] (fun fv mv iv wr => ∃ (i : Nat) (f m : Int), i ≤ ln ∧ iv = .int .i64 i ∧ fv = .int .i64 f ∧ mv = .int .i64 m ∧ parGo b tp a0 a2 ls = parGo b tp f m (ls.drop i) ∧ Grow W1 wr) (fun _ _ iv _ => ln - (intOf iv).toNat)
      case atStart => exact ⟨0, a0, a2, Nat.zero_le _, rfl, rfl, rfl, rfl, HG2.out⟩
      case round =>
        clear HG2 c3
        obtain ⟨i, f, m, hil, rfl, rfl, rfl, hpe, hG⟩ := hrel
        have HPE := Hid.mk' hpe
        have HG := Hid.mk' hG
        clear hpe hG
        by_cases hlt : i < ln
        · have hlti : (i : Int) < (ln : Int) := by omega
          obtain ⟨bb, o1, k1, e1, -, -, hc1⟩ := HV.out.at (by have := HLE.out; omega)
          simp only [Value.slice.injEq] at e1
          obtain ⟨rfl, -, rfl⟩ := e1
          obtain ⟨u, hu⟩ : ∃ u, u = ls.getD i 0 := ⟨_, rfl⟩
          have cu := grow_cell HG.out (grow_cell HM.out.grow (hc1 i (by have := HLE.out; omega)))
          have hdr : ls.drop i = u :: ls.drop (i + 1) := by
            have h9 : i < ls.length := by have := HLE.out; omega
            rw [List.drop_eq_getElem_cons h9, hu, List.getD_eq_getElem?_getD, List.getElem?_eq_getElem h9]; rfl
          rw [← hu] at cu
          rw [hdr, parGo_cons] at HPE
          obtain ⟨a, ha⟩ : ∃ a, a = sb b f := ⟨_, rfl⟩
          obtain ⟨t, ht⟩ : ∃ t, t = ad f m := ⟨_, rfl⟩
          have x1 : IntKind.i64.wrap (b - f) = a := ha.symm
          have x2 : IntKind.i64.wrap (f + m) = t := ht.symm
          rw [← ha, ← ht] at HPE
          clear ha ht hu hc1 hdr
          by_cases hm : a < m
          · rw [if_pos hm] at HPE
            obtain ⟨q, hq⟩ : ∃ q, q = dv a 8 := ⟨_, rfl⟩
            obtain ⟨r, hr⟩ : ∃ r, r = ad t q := ⟨_, rfl⟩
            obtain ⟨z, hz⟩ : ∃ z, z = Int.tmod a 8 := ⟨_, rfl⟩
            have x3 : IntKind.i64.wrap (a.tdiv 8) = q := hq.symm
            have x4 : IntKind.i64.wrap (t + q) = r := hr.symm
            have x5 : Int.tmod a 8 = z := hz.symm
            have z1 : z < 8 := by rw [hz]; exact Int.tmod_lt_of_pos a (by decide)
            have z0 : -8 < z := by
              rw [hz]
              have := Int.tmod_lt_of_pos (-a) (b := 8) (by decide)
              rw [Int.neg_tmod] at this
              omega
            rw [← hq, ← hr, ← hz] at HPE
            have HA := Hid.mk' (HM.out.ans.but HG.out (fun h => h))
            clear hq hr hz hil hlt
            go_wp2_with (first
              | (refine wpList_store_at rfl _ _ _ rfl g1 0 (plc r z) rfl rfl 30 [] (plc 0 0) [] (by simpa using HA.out) rfl rfl iPc (plc_one _ _) ?_; intro w3 hb3 hbut3; rw [List.nil_append, List.append_nil] at hb3)
              | fail)
            exact bodyPost_ret (results_plan_tmp rfl _ _ g1 _ _ _ _ rfl hb3 Try.underlying30 rfl iPc rfl) rfl ⟨by rw [HPE.out]; rfl, HM.out.fin HG.out hbut3⟩
          · rw [if_neg hm] at HPE
            have HLT := Hid.mk' hlt
            clear hil hlt
            go_wp2
            exact ⟨⟨i + 1, t, u, by have := HLT.out; omega, by go_num, rfl, rfl, HPE.out, HG.out⟩, by simp [intOf]; have := HLT.out; omega⟩
        · have hlti : ¬ (i : Int) < (ln : Int) := by omega
          have hdr : ls.drop i = [] := by rw [List.drop_eq_nil_iff]; have := HLE.out; omega
          rw [hdr, parGo_nil] at HPE
          have HCW : Hid (∀ j u, (pcells p (.slice la ln lc))[j]? = some u → wr.cell? ((⟨g0, 0, none⟩ : Addr).add j) = some u) := fun j u hj => by
            rw [addr_add, Nat.zero_add, (HM.out.box.but HG.out (fun h => h)).cell j]; exact hj
          clear hdr hil hlt
          go_wp2_with (first
            | (refine wpList_load_cells rfl _ _ rfl ⟨g0, 0, none⟩ rfl (pcells p (.slice la ln lc)) _ HCW.out Try.underlying24 rfl iPl ?_)
            | fail)
          refine Calls.mono (HTP.out _) ?_
          rintro e w4 ⟨rfl, hg4⟩
          have HG4 := Hid.mk' (HG.out.trans hg4)
          have HA := Hid.mk' (HM.out.ans.but HG4.out (fun h => h))
          clear hg4 HCW HTP
          by_cases hbt : b = tp
          · rw [if_pos hbt] at HPE
            have hbb : (b == tp) = true := by simpa using hbt
            clear hbt
            go_wp2_with (first
              | (refine wpList_store_at rfl _ _ _ rfl g1 0 (plc 0 0) rfl rfl 30 [] (plc 0 0) [] (by simpa using HA.out) rfl rfl iPc (plc_one _ _) ?_; intro w3 hb3 hbut3; rw [List.nil_append, List.append_nil] at hb3)
              | fail)
            exact bodyPost_ret (results_plan_tmp rfl _ _ g1 _ _ _ _ rfl hb3 Try.underlying30 rfl iPc rfl) rfl ⟨by rw [HPE.out]; rfl, HM.out.fin HG4.out hbut3⟩
          · rw [if_neg hbt] at HPE
            have hbb : (b == tp) = false := by simpa using hbt
            clear hbt
            go_wp2_with (first
              | (refine wpList_store_at rfl _ _ _ rfl g1 0 (plc 0 0) rfl rfl 30 [] (plc 0 0) [] (by simpa using HA.out) rfl rfl iPc (plc_one _ _) ?_; intro w3 hb3 hbut3; rw [List.nil_append, List.append_nil] at hb3)
              | fail)
            exact bodyPost_ret (results_plan_tmp rfl _ _ g1 _ _ _ _ rfl hb3 Try.underlying30 rfl iPc rfl) rfl ⟨by rw [HPE.out]; rfl, HM.out.fin HG4.out hbut3⟩
end Go.Proofs.Ytidblaepklgkcab
