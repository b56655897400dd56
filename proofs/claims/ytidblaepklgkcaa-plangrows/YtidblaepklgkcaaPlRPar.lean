/- The reference's Parent. -/
import Derived.Test.YtidblaepklgkcaaPlLevel
import Derived.Test.YtidblaepklgkcaaPlFirst
namespace Go.Proofs.Ytidblaepklgkcaa
open Go.RowKit

def Pn.rpar (p : Pn) (b : Int) : Pc :=
  if (p.lev b).1 < 0 then ⟨0, 0, 1⟩ else if (p.lev b).1 = (p.levels.length : Int) + 1 then ⟨0, 0, 5⟩
  else if (p.lev b).1 = 0 then ⟨p.first 1 + (p.lev b).2 / 16, (p.lev b).2 % 16, 0⟩ else ⟨p.first ((p.lev b).1 + 1).toNat + (p.lev b).2 / 8, (p.lev b).2 % 8, 0⟩
theorem levGo_in : ∀ (l : List Int) (i a : Int), 0 ≤ i → (∀ x ∈ l, x ≤ 1000000) → (levGo i a l).1 = -1 ∨ (i ≤ (levGo i a l).1 ∧ (levGo i a l).1 < i + l.length ∧ 0 ≤ (levGo i a l).2 ∧ (levGo i a l).2 ≤ 1000000)
  | [], i, a, _, _ => .inl rfl
  | x :: l, i, a, hi, hx => by
    rw [levGo_cons]
    split
    · exact .inl rfl
    · split
      · right
        have := hx x List.mem_cons_self
        refine ⟨by simp, by simp; omega, by simp; omega, by simp; omega⟩
      · rcases levGo_in l (i + 1) (a - x) (by omega) (fun y hy => hx y (List.mem_cons_of_mem _ hy)) with h | ⟨h1, h2, h3⟩
        · exact .inl h
        · exact .inr ⟨by omega, by rw [List.length_cons]; omega, h3⟩
/-- What the reference asks of a plan. -/
structure Pn.good (p : Pn) : Prop where
  len : p.levels.length ≤ 1000
  all : ∀ x ∈ p.all, 0 ≤ x ∧ x ≤ 1000000
  sum : ∀ i, 0 ≤ sumI (p.levels.take i) ∧ sumI (p.levels.take i) ≤ 1000000
theorem Pn.good.pg {p : Pn} (h : p.good) : 0 ≤ p.pages ∧ p.pages ≤ 1000000 := h.all _ List.mem_cons_self
theorem Pn.good.ct {p : Pn} (h : p.good) : 0 ≤ p.counters ∧ p.counters ≤ 1000000 := h.all _ (List.mem_cons_of_mem _ List.mem_cons_self)
theorem Pn.good.fst {p : Pn} (h : p.good) (k : Nat) : 0 ≤ p.first k ∧ p.first k ≤ 3000000 := by
  have h1 := h.pg
  have h2 := h.ct
  have h3 := h.sum (k - 2)
  unfold Pn.first
  split <;> omega
set_option maxRecDepth 100000 in
set_option maxHeartbeats 2000000 in
theorem rparent_any (w : World) (p : Pn) (v : Value) (b : Int) (hb : i64 b) (hv : Nums w v p.levels) (hg : p.good) : Calls Try.prog 23 #[pval p v, .int .i64 b] w fun e w' => e = .returned (p.rpar b).ret ∧ Grow w w' := by
  obtain ⟨W0, W1, g0, g1, hW0, hg0, hW1, hg1, hM⟩ := par_begin w p v
  have HW0 := Hid.mk' hW0
  have HG0 := Hid.mk' hg0
  have HW1 := Hid.mk' hW1
  have HG1 := Hid.mk' hg1
  have HM := Hid.mk' hM
  have HL1 := Hid.mk' hM.box.pl
  have HV := Hid.mk' (hv.grow hM.grow)
  have HGD := Hid.mk' hg
  have HLV := Hid.mk' (rlevel_any W1 p v b hb (hv.grow hM.grow) hg.len hg.all)
  have HIN := Hid.mk' (levGo_in p.all 0 b (by decide) (fun x hx => (hg.all x hx).2))
  have hall : (p.all.length : Int) = (p.levels.length : Int) + 2 := by unfold Pn.all; simp; omega
  have HALL := Hid.mk' hall
  unfold Pn.rpar
  have hlv : p.lev b = levGo 0 b p.all := rfl
  rw [← hlv] at HIN
  obtain ⟨⟨L, I⟩, hLI⟩ : ∃ q, q = p.lev b := ⟨_, rfl⟩
  rw [← hLI] at HLV HIN ⊢
  dsimp only at HLV HIN ⊢
  obtain ⟨la, lc, hve⟩ := hv.len
  obtain ⟨ln, hln⟩ : ∃ n, n = p.levels.length := ⟨_, rfl⟩
  rw [← hln] at hve HALL ⊢
  obtain ⟨R, hR⟩ : ∃ R : Pc, R = (if L < 0 then (⟨0, 0, 1⟩ : Pc) else if L = (ln : Int) + 1 then ⟨0, 0, 5⟩ else if L = 0 then ⟨p.first 1 + I / 16, I % 16, 0⟩ else ⟨p.first (L + 1).toNat + I / 8, I % 8, 0⟩) := ⟨_, rfl⟩
  rw [← hR]
  have HR := Hid.mk' hR
  clear hR
  have HLN := Hid.mk' hln
  have hlni : (ln : Int) ≤ 1000 := by have := hg.len; omega
  have c3 : ∀ wz, Grow W1 wz → wz.cell? ⟨g0, 3, none⟩ = some v := fun wz k => (hM.box.but k (fun h => h)).cell 3
  have HC3 := Hid.mk' c3
  unfold pval
  obtain ⟨N, hN⟩ : ∃ N, N = (pcells p v).toArray := ⟨_, rfl⟩
  rw [← hN] at HW0 ⊢
  clear hW0 hg0 hW1 hg1 hM hv hg hall hlv hLI hln c3 hN hb
  subst hve
  go_enter Try.func23, Try.ntmps23
  go_upto_region 1 with (first
    | (refine wpList_runH rfl (exec_allocF rfl (zPc _)) ?_; rw [← HW0.out, ← HG0.out, ← HW1.out, ← HG1.out])
    | fail)
  clear HW0 HG0 HW1 HG1
  go_wp2_with (first
    | (refine wpList_load_cells rfl _ _ rfl ⟨g0, 0, none⟩ rfl (pcells p (.slice la ln lc)) _ HL1.out Try.underlying42 rfl iPl ?_)
    | fail)
  refine Calls.mono HLV.out ?_
  rintro e w2 ⟨rfl, hg2⟩
  have HG2 := Hid.mk' hg2
  have c3 := HC3.out w2 hg2
  have HA2 := Hid.mk' (HM.out.ans.but hg2 (fun h => h))
  have HL2 := Hid.mk' (HM.out.box.but hg2 (fun h => h)).pl
  clear hg2 HLV HL1
  by_cases h1 : L < 0
  · have HE : Hid (R = ⟨0, 0, 1⟩) := Hid.mk' (by rw [HR.out, if_pos h1])
    go_wp2_with (first
      | (refine wpList_store_at rfl _ _ _ rfl g1 0 (plc 0 0) rfl rfl 53 [] (plc 0 0) [] (by simpa using HA2.out) rfl rfl iPc (plc_one _ _) ?_; intro w9 hb9 hbut9; rw [List.nil_append, List.append_nil] at hb9)
      | fail)
    exact bodyPost_ret (results_plan_tmp rfl _ _ g1 _ _ _ _ rfl hb9 Try.underlying53 rfl iPc rfl) rfl ⟨by rw [HE.out]; rfl, HM.out.fin HG2.out hbut9⟩
  · have hin := HIN.out
    have hall := HALL.out
    by_cases h2 : L = (ln : Int) + 1
    · have HE : Hid (R = ⟨0, 0, 5⟩) := Hid.mk' (by rw [HR.out, if_neg h1, if_pos h2])
      have hb2 : (L == (ln : Int) + 1) = true := by simpa using h2
      clear hin hall h2
      go_wp2_with (first
        | (refine wpList_store_at rfl _ _ _ rfl g1 0 (plc 0 0) rfl rfl 53 [] (plc 0 0) [] (by simpa using HA2.out) rfl rfl iPc (plc_one _ _) ?_; intro w9 hb9 hbut9; rw [List.nil_append, List.append_nil] at hb9)
        | fail)
      exact bodyPost_ret (results_plan_tmp rfl _ _ g1 _ _ _ _ rfl hb9 Try.underlying53 rfl iPc rfl) rfl ⟨by rw [HE.out]; rfl, HM.out.fin HG2.out hbut9⟩
    · have hb2 : (L == (ln : Int) + 1) = false := by simpa using h2
      have hI0 : 0 ≤ I := by omega
      have hI1 : I ≤ 1000000 := by omega
      by_cases h3 : L = 0
      · have HE : Hid (R = ⟨p.first 1 + I / 16, I % 16, 0⟩) := Hid.mk' (by rw [HR.out, if_neg h1, if_neg h2, if_pos h3])
        have hb3 : (L == 0) = true := by simpa using h3
        have hF := HGD.out.fst 1
        have HFR := Hid.mk' (rfirst_any w2 p (.slice la ln lc) 1 (by decide) (by omega) (HV.out.grow HG2.out) HGD.out.len HGD.out.pg HGD.out.ct HGD.out.sum)
        generalize p.first 1 = f1 at HE hF HFR
        have f10 := hF.1
        have f11 := hF.2
        have hq : I.tdiv 16 = I / 16 := Int.tdiv_eq_ediv_of_nonneg hI0
        obtain ⟨q, hqe⟩ : ∃ q, q = I / 16 := ⟨_, rfl⟩
        rw [← hqe] at hq HE
        have q0 : 0 ≤ q := by omega
        have q1 : q ≤ 1000000 := by omega
        clear hin hall h2 h3 hF hqe
        go_wp2_with (first
          | (refine wpList_load_cells rfl _ _ rfl ⟨g0, 0, none⟩ rfl (pcells p (.slice la ln lc)) _ HL2.out Try.underlying42 rfl iPl ?_)
          | fail)
        refine Calls.mono HFR.out ?_
        rintro e w3 ⟨rfl, hg3⟩
        have HG3 := Hid.mk' (HG2.out.trans hg3)
        have HA3 := Hid.mk' (HA2.out.but hg3 (fun h => h))
        clear hg3 HFR
        go_wp2_with (first
          | (refine wpList_store_at rfl _ _ _ rfl g1 0 (plc (f1 + q) (I % 16)) rfl rfl 53 [] (plc 0 0) [] (by simpa using HA3.out) rfl rfl iPc (plc_one _ _) ?_; intro w9 hb9 hbut9; rw [List.nil_append, List.append_nil] at hb9)
          | fail)
        exact bodyPost_ret (results_plan_tmp rfl _ _ g1 _ _ _ _ rfl hb9 Try.underlying53 rfl iPc rfl) rfl ⟨by rw [HE.out]; rfl, HM.out.fin HG3.out hbut9⟩
      · have hb3 : (L == 0) = false := by simpa using h3
        obtain ⟨k, hk⟩ : ∃ k : Nat, (k : Int) = L + 1 := ⟨(L + 1).toNat, by omega⟩
        have HE : Hid (R = ⟨p.first k + I / 8, I % 8, 0⟩) := Hid.mk' (by rw [HR.out, if_neg h1, if_neg h2, if_neg h3, show (L + 1).toNat = k by omega])
        have hF := HGD.out.fst k
        have HFR := Hid.mk' (rfirst_any w2 p (.slice la ln lc) k (by omega) (by have := HLN.out; omega) (HV.out.grow HG2.out) HGD.out.len HGD.out.pg HGD.out.ct HGD.out.sum)
        rw [hk] at HFR
        generalize p.first k = f1 at HE hF HFR
        have f10 := hF.1
        have f11 := hF.2
        have hq : I.tdiv 8 = I / 8 := Int.tdiv_eq_ediv_of_nonneg hI0
        obtain ⟨q, hqe⟩ : ∃ q, q = I / 8 := ⟨_, rfl⟩
        rw [← hqe] at hq HE
        have q0 : 0 ≤ q := by omega
        have q1 : q ≤ 1000000 := by omega
        have hL1 : L ≤ 1002 := by omega
        clear hin hall h2 h3 hF hqe hk
        go_wp2_with (first
          | (refine wpList_load_cells rfl _ _ rfl ⟨g0, 0, none⟩ rfl (pcells p (.slice la ln lc)) _ HL2.out Try.underlying42 rfl iPl ?_)
          | fail)
        refine Calls.mono HFR.out ?_
        rintro e w3 ⟨rfl, hg3⟩
        have HG3 := Hid.mk' (HG2.out.trans hg3)
        have HA3 := Hid.mk' (HA2.out.but hg3 (fun h => h))
        clear hg3 HFR
        go_wp2_with (first
          | (refine wpList_store_at rfl _ _ _ rfl g1 0 (plc (f1 + q) (I % 8)) rfl rfl 53 [] (plc 0 0) [] (by simpa using HA3.out) rfl rfl iPc (plc_one _ _) ?_; intro w9 hb9 hbut9; rw [List.nil_append, List.append_nil] at hb9)
          | fail)
        exact bodyPost_ret (results_plan_tmp rfl _ _ g1 _ _ _ _ rfl hb9 Try.underlying53 rfl iPc rfl) rfl ⟨by rw [HE.out]; rfl, HM.out.fin HG3.out hbut9⟩
end Go.Proofs.Ytidblaepklgkcaa
