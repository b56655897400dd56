/- plan: climb, whatever visit is. -/
import Derived.Test.YtidblaepklgkcabPlParent
namespace Go.Proofs.Ytidblaepklgkcab
open Go.RowKit

theorem wrap_in (x : Int) : i64 (IntKind.i64.wrap x) := by
  unfold i64
  simp [IntKind.wrap, IntKind.bits, IntKind.signed]
  omega
theorem Nums.keep {R : Nat → Prop} {w w' : World} {v : Value} {fs : List Int} (h : Nums w v fs) (k : But R w w') (hr : 0 < fs.length → ∀ j, v.ownBlock = some j → ¬ R j) : Nums w' v fs := by
  rcases Nat.eq_zero_or_pos fs.length with h0 | h0
  · obtain ⟨h1, h2, h3 | ⟨h4, -⟩⟩ := h
    · exact ⟨h1, h2, .inl h3⟩
    · omega
  · exact h.but k (fun j hj _ => hr h0 j hj)
theorem Nums.low {w : World} {v : Value} {fs : List Int} (h : Nums w v fs) (h0 : 0 < fs.length) : ∀ j, v.ownBlock = some j → j < w.heap.size := by
  obtain ⟨b, off, cap, rfl, -, hb, -⟩ := h.at h0
  intro j hj
  have h9 : some b = some j := hj
  have := Option.some.inj h9
  omega
def climbL : Int → Int → Int → List Int → List Int
  | a, f, _, [] => [ad f a]
  | a, f, m, b :: ls => ad f a :: climbL (dv a 8) (ad f m) b ls
def climbT : Int → Int → Int → List Int → List Int
  | _, _, _, [] => []
  | a, f, m, b :: ls => climbL (dv a 8) (ad f m) b ls
theorem climb_eq (a f m : Int) (ls : List Int) : climbL a f m ls = ad f a :: climbT a f m ls := by cases ls <;> rfl
theorem climbT_cons (a f m b : Int) (ls : List Int) : climbT a f m (b :: ls) = climbL (dv a 8) (ad f m) b ls := rfl
def Pn.path (p : Pn) (x : Int) : List Int := climbL (dv x 16) p.pages p.counters p.levels
def runB (B : List Int → Int → Bool) : List Int → List Int → List Int
  | ds, [] => ds
  | ds, x :: t => if B ds x then runB B (ds ++ [x]) t else ds ++ [x]
theorem runB_cons (B : List Int → Int → Bool) (ds : List Int) (x : Int) (t : List Int) : runB B ds (x :: t) = if B ds x then runB B (ds ++ [x]) t else ds ++ [x] := rfl
/-- New blocks are kept. -/
def FF (F : Nat → Prop) (w w' : World) : Nat → Prop := fun b => F b ∨ (w.heap.size ≤ b ∧ b < w'.heap.size)
def ClTo (I : (Nat → Prop) → World → List Int → Prop) (F : Nat → Prop) (w : World) (R : List Int) (e : Ending) (w' : World) : Prop := e = .returned (.tuple #[]) ∧ (∃ F', (∀ b, F b → F' b) ∧ I F' w' R) ∧ But (fun b => ¬ F b) w w'
set_option maxRecDepth 100000 in
set_option maxHeartbeats 2000000 in
theorem climb_any (w : World) (p : Pn) (v : Value) (x : Int) (fn g : Nat) (I : (Nat → Prop) → World → List Int → Prop) (B : List Int → Int → Bool) (F : Nat → Prop)
    (hv : Nums w v p.levels) (hlen : p.levels.length ≤ 100000) (hF : 0 < p.levels.length → ∀ b, v.ownBlock = some b → F b) (hI : I F w [])
    (hent : ∀ (a : Array Value) (w : World), (callFunc fn a).run Try.prog w = .ok (.enter fn a) w)
    (hsame : ∀ F w w' ds, I F w ds → Grow w w' → I F w' ds)
    (hnew : ∀ F w w' ds, I F w ds → Grow w w' → I (FF F w w') w' ds)
    (hstep : ∀ F w ds x, I F w ds → i64 x → ds.length ≤ 100000 → Calls Try.prog fn #[.int .i64 x, ptr g] w fun e w' => e = .returned (.bool (B ds x)) ∧ I F w' (ds ++ [x]) ∧ But (fun b => ¬ F b) w w') :
    Calls Try.prog 16 #[pval p v, .int .i64 x, .func (.func fn) #[] #[ptr g]] w (ClTo I F w (runB B [] (p.path x))) := by
  obtain ⟨W, gp, hbx⟩ := box_pl w p v
  have HW := Hid.mk' hbx.ew
  have HGP := Hid.mk' hbx.eg
  have HBX := Hid.mk' hbx
  have c0 : W.cell? ⟨gp, 0, none⟩ = some (.int .i64 p.pages) := hbx.blk.cell 0
  have c2 : W.cell? ⟨gp, 2, none⟩ = some (.int .i64 p.counters) := hbx.blk.cell 2
  have HC3 : Hid (∀ w', But (fun b => ¬ FF F w W b) W w' → w'.cell? ⟨gp, 3, none⟩ = some v) := fun w' k => (hbx.blk.but k (fun h => h (.inr ⟨by rw [hbx.eg]; exact Nat.le_refl _, hbx.blk.lt⟩))).cell 3
  have HNM : Hid (∀ w', But (fun b => ¬ FF F w W b) W w' → Nums w' v p.levels) := fun w' k => (hv.grow hbx.grow).keep k (fun h0 j hj h => h (.inl (hF h0 j hj)))
  have HI1 := Hid.mk' (hnew F w W [] hI hbx.grow)
  have HST := Hid.mk' (hstep (FF F w W))
  have HEN := Hid.mk' hent
  have HSM := Hid.mk' (hsame (FF F w W))
  have HBT : Hid (∀ w', But (fun b => ¬ FF F w W b) W w' → But (fun b => ¬ F b) w w') := fun w' k => (hbx.grow.mono (fun _ _ h => h.elim)).then k (fun i hi h hF => h (.inl hF))
  unfold Pn.path
  generalize hpg : p.pages = a0 at c0 ⊢
  generalize hct : p.counters = a2 at c2 ⊢
  generalize hlv : p.levels = ls at HNM hlen ⊢
  obtain ⟨la, lc, hve⟩ := hv.len
  rw [hlv] at hve
  obtain ⟨ln, hln⟩ : ∃ ln, ln = ls.length := ⟨_, rfl⟩
  rw [← hln] at hve hlen
  have HLE := Hid.mk' hln
  have hlni : (ln : Int) ≤ 100000 := by omega
  unfold pval
  obtain ⟨N, hN⟩ : ∃ N, N = (pcells p v).toArray := ⟨_, rfl⟩
  rw [← hN] at HW ⊢
  obtain ⟨F1, hF1⟩ : ∃ F1, F1 = FF F w W := ⟨_, rfl⟩
  rw [← hF1] at HC3 HNM HI1 HST HBT HSM
  have HF1 : Hid (∀ b, F b → F1 b) := fun b hb => by rw [hF1]; exact .inl hb
  obtain ⟨q, hq⟩ : ∃ q, q = dv x 16 := ⟨_, rfl⟩
  rw [← hq]
  have e1 : IntKind.i64.wrap (x.tdiv 16) = q := hq.symm
  obtain ⟨R, hR⟩ : ∃ R, R = runB B [] (climbL q a0 a2 ls) := ⟨_, rfl⟩
  rw [← hR]
  rw [climb_eq, runB_cons, List.nil_append] at hR
  obtain ⟨y, hy⟩ : ∃ y, y = ad a0 q := ⟨_, rfl⟩
  have e2 : IntKind.i64.wrap (a0 + q) = y := hy.symm
  have HYI : Hid (i64 y) := Hid.mk' (by rw [hy]; exact wrap_in _)
  rw [← hy] at hR
  have HR := Hid.mk' hR
  clear hbx hv hlen hF hI hnew hstep hent hsame hpg hct hlv hln hN hF1 hq hR hy
  subst hve
  go_enter Try.func16, Try.ntmps16
  go_upto_region 1 with fail
  rw [← HW.out, ← HGP.out]
  clear HW HGP
  go_upto_region 2 with fail
  have HC0 := Hid.mk' c0
  have HC2 := Hid.mk' c2
  clear c0 c2
  refine region_chain [] [0, 1, 2, 3, 4, 5] (Grow W) (Grow W) (by kernel_rfl) (by kernel_rfl) (fun _ _ h k => h.trans k) (fun _ h => h) ((But.refl _ W).drew) ?_
  intro ι hne X hX
  have d0 : ∀ z, (X z).cell? ⟨gp, 0, none⟩ = some (.int .i64 a0) := fun z => grow_cell (hX z) HC0.out
  have d2 : ∀ z, (X z).cell? ⟨gp, 2, none⟩ = some (.int .i64 a2) := fun z => grow_cell (hX z) HC2.out
  iterate 6 (refine still_step rfl (fun K hK => ?_); go_simp; refine hK _ ?_; clear hK K)
  refine still_nil ?_
  clear hX hne d0 d2 HC0 HC2
  intro w2 hw2
  have HG2 := Hid.mk' hw2
  clear hw2
  go_wp2_with fail
  rw [HEN.out]
  refine Calls.mono (HST.out _ _ _ (HSM.out _ _ _ HI1.out HG2.out) HYI.out (Nat.zero_le _)) ?_
  rintro e w3 ⟨rfl, hI3, hb3⟩
  have hbw : But (fun b => ¬ F1 b) W w3 := (HG2.out.mono (fun _ _ h => h.elim)).trans hb3
  have HI3 := Hid.mk' hI3
  have HB3 := Hid.mk' hbw
  have HR3 : Hid (R = if B [] y then runB B [y] (climbT q a0 a2 ls) else [y]) := HR.out
  clear hI3 hb3 hbw HI1 HG2 HR HYI
  go_wp2
  generalize B [] y = mo at HR3 ⊢
  go_loopw [6, 7, 8, 9, 10] (fun av fv mv ov iv wr => ∃ (i : Nat) (a f m : Int) (o : Bool) (ds : List Int), i ≤ ln ∧ ds.length = i + 1 ∧ av = .int .i64 a ∧ fv = .int .i64 f ∧ mv = .int .i64 m ∧ ov = .bool o ∧ iv = .int .i64 i ∧ (R = if o then runB B ds (climbT a f m (ls.drop i)) else ds) ∧ I F1 wr ds ∧ But (fun b => ¬ F1 b) W wr) (fun _ _ _ _ iv _ => ln - (intOf iv).toNat)
  case atStart => exact ⟨0, q, a0, a2, mo, [y], Nat.zero_le _, rfl, rfl, rfl, rfl, rfl, rfl, HR3.out, HI3.out, HB3.out⟩
  case round =>
    clear HI3 HB3 HR3
    obtain ⟨i, a, f, m, o, ds, hil, hdl, rfl, rfl, rfl, rfl, rfl, hR, hI, hB⟩ := hrel
    have HR := Hid.mk' hR
    have HI := Hid.mk' hI
    have HB := Hid.mk' hB
    have HDL := Hid.mk' hdl
    clear hR hI hB hdl
    cases o with
    | false =>
      have HRE : Hid (R = ds) := HR.out
      go_wp2
      refine bodyPost_ret (results_none rfl _ _ _) rfl ?_
      exact ⟨rfl, ⟨F1, HF1.out, by rw [HRE.out]; exact HI.out⟩, HBT.out _ HB.out⟩
    | true =>
      by_cases hlt : i < ln
      · have hlti : (i : Int) < (ln : Int) := by omega
        have c3 := HC3.out _ HB.out
        obtain ⟨bb, o1, k1, e3, -, -, hc1⟩ := (HNM.out _ HB.out).at (by have := HLE.out; omega)
        simp only [Value.slice.injEq] at e3
        obtain ⟨rfl, -, rfl⟩ := e3
        obtain ⟨u, hu⟩ : ∃ u, u = ls.getD i 0 := ⟨_, rfl⟩
        have cu := hc1 i (by have := HLE.out; omega)
        have hdr : ls.drop i = u :: ls.drop (i + 1) := by
          have h9 : i < ls.length := by have := HLE.out; omega
          rw [List.drop_eq_getElem_cons h9, hu, List.getD_eq_getElem?_getD, List.getElem?_eq_getElem h9]; rfl
        rw [← hu] at cu
        have hR2 : R = runB B ds (climbT a f m (ls.drop i)) := HR.out
        rw [hdr, climbT_cons, climb_eq, runB_cons] at hR2
        obtain ⟨a', ha⟩ : ∃ a', a' = dv a 8 := ⟨_, rfl⟩
        obtain ⟨f', hf⟩ : ∃ f', f' = ad f m := ⟨_, rfl⟩
        obtain ⟨y', hy⟩ : ∃ y', y' = ad f' a' := ⟨_, rfl⟩
        rw [← ha, ← hf, ← hy] at hR2
        have x1 : IntKind.i64.wrap (a.tdiv 8) = a' := ha.symm
        have x2 : IntKind.i64.wrap (f + m) = f' := hf.symm
        have x3 : IntKind.i64.wrap (f' + a') = y' := hy.symm
        have HYI : Hid (i64 y') := Hid.mk' (by rw [hy]; exact wrap_in _)
        have HR2 := Hid.mk' hR2
        have HLT := Hid.mk' hlt
        clear hu hc1 hdr hR2 ha hf hy hil hlt HR
        go_upto_region 8 with fail
        have HC3' := Hid.mk' c3
        have HCU := Hid.mk' cu
        clear c3 cu
        refine region_chain [] [0, 1, 2, 3, 4, 5, 6, 7, 8, 9] (Grow wr) (Grow wr) (by kernel_rfl) (by kernel_rfl) (fun _ _ h k => h.trans k) (fun _ h => h) ((But.refl _ wr).drew) ?_
        intro ι hne X hX
        have d0 : ∀ z, (X z).cell? ⟨gp, 3, none⟩ = some (.slice (some ⟨bb, o1, none⟩) ln lc) := fun z => grow_cell (hX z) HC3'.out
        have d2 : ∀ z, (X z).cell? ⟨bb, o1 + i, none⟩ = some (.int .i64 u) := fun z => grow_cell (hX z) HCU.out
        iterate 10 (refine still_step rfl (fun K hK => ?_); go_simp; refine hK _ ?_; clear hK K)
        refine still_nil ?_
        clear hX hne d0 d2 HC3' HCU
        intro w4 hw4
        have HG4 := Hid.mk' hw4
        clear hw4
        go_wp2_with fail
        rw [HEN.out]
        refine Calls.mono (HST.out _ _ _ (HSM.out _ _ _ HI.out HG4.out) HYI.out (by have := HDL.out; have := HLT.out; omega)) ?_
        rintro e w5 ⟨rfl, hI5, hb5⟩
        have HI5 := Hid.mk' hI5
        have HB5 := Hid.mk' ((HB.out.then HG4.out (fun _ _ h => h.elim)).trans hb5)
        generalize B ds y' = mo2 at HR2 ⊢
        clear hI5 hb5
        go_wp2
        exact ⟨⟨i + 1, a', f', u, mo2, ds ++ [y'], by have := HLT.out; omega, by rw [List.length_append, HDL.out]; rfl, rfl, rfl, rfl, rfl, by go_num, HR2.out, HI5.out, HB5.out⟩, by simp [intOf]; have := HLT.out; omega⟩
      · have hlti : ¬ (i : Int) < (ln : Int) := by omega
        have c3 := HC3.out _ HB.out
        have hdr : ls.drop i = [] := by rw [List.drop_eq_nil_iff]; have := HLE.out; omega
        have HRE : Hid (R = ds) := Hid.mk' (by rw [HR.out, hdr]; rfl)
        clear hdr hil
        go_wp2
        refine bodyPost_ret (results_none rfl _ _ _) rfl ?_
        exact ⟨rfl, ⟨F1, HF1.out, by rw [HRE.out]; exact HI.out⟩, HBT.out _ HB.out⟩
end Go.Proofs.Ytidblaepklgkcab
