/- The reference's row: Next, New. -/
import Derived.Test.YtidblaepklgkcaaFaRefTurn
namespace Go.Proofs.Ytidblaepklgkcaa
open Go.RowKit

/-- Whose turn it is, of the first so many; -1: nobody's. -/
def bst (T : List Sh) (k : Nat) : Int := match awU T k with
  | [] => -1
  | a :: l => ((nx1 T l a : Nat) : Int)
theorem bst_out {T : List Sh} {k : Nat} (h : awk T k = false) : bst T (k + 1) = bst T k := by
  unfold bst
  rw [awU_succ, h, if_neg (by decide), List.append_nil]
theorem bst_first {T : List Sh} {k : Nat} (h : awk T k = true) (he : awU T k = []) : bst T (k + 1) = (k : Int) := by
  unfold bst
  rw [awU_succ, h, if_pos rfl, he]
  rfl
theorem bst_next {T : List Sh} {k a : Nat} {l : List Nat} (h : awk T k = true) (he : awU T k = a :: l) : bst T (k + 1) = if ls (pat T k) (pat T (nx1 T l a)) then (k : Int) else ((nx1 T l a : Nat) : Int) := by
  unfold bst
  rw [awU_succ, h, if_pos rfl, he, List.cons_append]
  show ((nx1 T (l ++ [k]) a : Nat) : Int) = _
  rw [nx1_snoc]
  split <;> rfl
section
variable {w w' : World} {gx gy cap : Nat} {T : List Sh} {i : Int} {k c : Nat} {t t' : Sh} {u : Value} {R : Nat → Prop}
set_option maxRecDepth 100000 in
set_option maxHeartbeats 4000000 in
theorem rnext_any (h : Rr w gx gy cap T) : Calls Try.prog 37 #[ptr gx] w fun e w' => e = .returned (.tuple #[.int .i64 (nxI T : Nat), .bool (!(awN T).isEmpty)]) ∧ RrTo w gx gy cap (nxS T) w' := by
  obtain ⟨n, hn⟩ : ∃ n, n = T.length := ⟨_, rfl⟩
  have HROW : Hid (Blk w gx 74 [.slice (some ⟨gy, 0, none⟩) n cap]) := Hid.mk' (by rw [hn]; exact h.row)
  have HH := Hid.mk' h
  have HN := Hid.mk' hn
  have hn8 : (n : Int) ≤ 8 := by have := h.ok.n8; omega
  clear h hn
  go_enter Try.func37, Try.ntmps37
  go_wp2
  go_loopw [4, 5] (fun bv iv wr => ∃ (j : Nat) (B : Int), j ≤ n ∧ iv = .int .i64 j ∧ bv = .int .i64 B ∧ B = bst T j ∧ Grow w wr) (fun _ iv _ => n - (intOf iv).toNat)
  case atStart => exact ⟨0, -1, Nat.zero_le _, rfl, rfl, rfl, But.refl _ _⟩
  case round =>
    obtain ⟨j, B, hjn, rfl, rfl, hB, hG⟩ := hrel
    have HG := Hid.mk' hG
    have HB := Hid.mk' hB
    have c0 : wr.cell? ⟨gx, 0, none⟩ = some (.slice (some ⟨gy, 0, none⟩) n cap) := (HROW.out.but hG (fun h => h)).cell 0
    clear hG hB
    by_cases hlt : j < n
    · have hlti : (j : Int) < (n : Int) := by omega
      obtain ⟨⟨jw, jp, ja⟩, htj⟩ : ∃ t, T[j]? = some t := ⟨_, List.getElem?_eq_getElem (by have := HN.out; omega)⟩
      have hjp : jp ≤ 9218868437227405312 := (HH.out.ok.ok _ (List.mem_of_getElem? htj)).2
      have hak : awk T j = ja := awk_of htj
      have HPJ := Hid.mk' (pat_of htj)
      have HTJ := Hid.mk' htj
      clear htj
      cases ja with
      | false =>
        have HB2 : Hid (B = bst T (j + 1)) := Hid.mk' (by rw [bst_out hak]; exact HB.out)
        clear hak
        go_upto_region 5 with fail
        refine region_chain [] [0, 1, 2, 3, 4, 5, 6, 7, 8, 9, 10, 11, 12, 13, 14, 15, 16, 17, 18, 19, 20, 21, 22, 23, 24, 25, 26, 27, 28, 29, 30] (Grow wr) (Grow wr) (by kernel_rfl) (by kernel_rfl) (fun _ _ h k => h.trans k) (fun _ h => h) ((But.refl _ wr).drew) ?_
        intro ι hne X hX
        have x0 : ∀ z, (X z).cell? ⟨gx, 0, none⟩ = some (.slice (some ⟨gy, 0, none⟩) n cap) := fun z => (HROW.out.but (HG.out.trans (hX z)) (fun h => h)).cell 0
        have x1 : ∀ z, (X z).cell? ⟨gy, j * 3, none⟩ = some (.bool false) := fun z => (HH.out.grow (HG.out.trans (hX z))).cell HTJ.out (c := 0) rfl
        have x2 : ∀ z, (X z).cell? ⟨gy, j * 3 + 2, none⟩ = some (.float .f64 jp) := fun z => (HH.out.grow (HG.out.trans (hX z))).cell HTJ.out (c := 2) rfl
        iterate 8 (refine still_step rfl (fun K hK => ?_); go_simp; refine hK _ ?_; clear hK K)
        refine still_step rfl (fun K hK => ?_)
        have hK' := fun (a : Act) h1 h2 h3 h4 => hK a (still_pass3 (a := a) 8 true 23 (.bool false) [9, 10, 11] [24, 25, 26] 11 false 26 undef [12, 13, 14, 15, 16, 17, 18, 19, 20, 21, 22, 23, 24, 25, 26, 27, 28] [27, 28, 29, 30, 31, 32, 33, 34, 35, 36, 37, 38, 39, 40, 41, 42, 43] 8 true 23 (.bool false) [29] [44] [30] rfl rfl (fun h => by cases h) (by kernel_rfl) (by kernel_rfl) rfl (fun h => by cases h) (by kernel_rfl) (by kernel_rfl) rfl (fun h => by cases h) (by kernel_rfl) (by kernel_rfl) h1 h2 h3 h4)
        clear hK
        go_simp
        refine hK' _ (by kernel_rfl) (by kernel_rfl) (by kernel_rfl) ?_
        clear hK' K
        intro K hK
        simp only [undefL]
        go_simp
        refine hK _ ?_
        clear hK K
        iterate 1 (refine still_step rfl (fun K hK => ?_); go_simp; refine hK _ ?_; clear hK K)
        refine still_nil ?_
        clear hX hne x0 x1 x2
        intro w5 hw5
        have HW5 := Hid.mk' (HG.out.trans hw5)
        clear hw5
        go_wp2
        exact ⟨⟨j + 1, B, by omega, by go_num, rfl, HB2.out, HW5.out⟩, by simp [intOf]; omega⟩
      | true =>
        cases hem : awU T j with
        | nil =>
          have hB0 : B = -1 := by rw [HB.out]; unfold bst; rw [hem]
          subst hB0
          have HB2 : Hid ((j : Int) = bst T (j + 1)) := Hid.mk' (by rw [bst_first hak hem])
          clear hak hem
          go_upto_region 5 with fail
          refine region_chain [] [0, 1, 2, 3, 4, 5, 6, 7, 8, 9, 10, 11, 12, 13, 14, 15, 16, 17, 18, 19, 20, 21, 22, 23, 24, 25, 26, 27, 28, 29, 30] (Grow wr) (Grow wr) (by kernel_rfl) (by kernel_rfl) (fun _ _ h k => h.trans k) (fun _ h => h) ((But.refl _ wr).drew) ?_
          intro ι hne X hX
          have x0 : ∀ z, (X z).cell? ⟨gx, 0, none⟩ = some (.slice (some ⟨gy, 0, none⟩) n cap) := fun z => (HROW.out.but (HG.out.trans (hX z)) (fun h => h)).cell 0
          have x1 : ∀ z, (X z).cell? ⟨gy, j * 3, none⟩ = some (.bool true) := fun z => (HH.out.grow (HG.out.trans (hX z))).cell HTJ.out (c := 0) rfl
          have x2 : ∀ z, (X z).cell? ⟨gy, j * 3 + 2, none⟩ = some (.float .f64 jp) := fun z => (HH.out.grow (HG.out.trans (hX z))).cell HTJ.out (c := 2) rfl
          iterate 11 (refine still_step rfl (fun K hK => ?_); go_simp; refine hK _ ?_; clear hK K)
          refine still_step rfl (fun K hK => ?_)
          have hK' := fun (a : Act) h1 h4 => hK a (still_pass1 (a := a) 11 false 26 (.bool true) [12, 13, 14, 15, 16, 17, 18, 19, 20, 21, 22, 23, 24, 25, 26, 27, 28] [29, 30] [27, 28, 29, 30, 31, 32, 33, 34, 35, 36, 37, 38, 39, 40, 41, 42, 43] rfl rfl (fun h => by cases h) (by kernel_rfl) (by kernel_rfl) h1 h4)
          clear hK
          go_simp
          refine hK' _ (by kernel_rfl) ?_
          clear hK' K
          intro K hK
          simp only [undefL]
          go_simp
          refine hK _ ?_
          clear hK K
          iterate 2 (refine still_step rfl (fun K hK => ?_); go_simp; refine hK _ ?_; clear hK K)
          refine still_nil ?_
          clear hX hne x0 x1 x2
          intro w5 hw5
          have HW5 := Hid.mk' (HG.out.trans hw5)
          clear hw5
          go_wp2
          exact ⟨⟨j + 1, (j : Int), by omega, by go_num, rfl, HB2.out, HW5.out⟩, by simp [intOf]; omega⟩
        | cons a l =>
          obtain ⟨q, hq⟩ : ∃ q, q = nx1 T l a := ⟨_, rfl⟩
          have hBq : B = (q : Int) := by rw [HB.out, hq]; unfold bst; rw [hem]
          subst hBq
          have hqn : q < n := by
            have h1 : q ∈ awU T j := by
              rw [hem, hq]
              rcases nx1_mem T l a with e | e
              · rw [e]; exact List.mem_cons_self
              · exact List.mem_cons_of_mem _ e
            have := (awU_lt h1).1
            omega
          have hqi : (q : Int) < (n : Int) := by omega
          have hq0 : ¬ (q : Int) < 0 := by omega
          obtain ⟨⟨qw, qp, qa⟩, htq⟩ : ∃ t, T[q]? = some t := ⟨_, List.getElem?_eq_getElem (by have := HN.out; omega)⟩
          have hqp : qp ≤ 9218868437227405312 := (HH.out.ok.ok _ (List.mem_of_getElem? htq)).2
          have HTQ := Hid.mk' htq
          have HB2 : Hid ((if ls jp qp then (j : Int) else (q : Int)) = bst T (j + 1)) := Hid.mk' (by rw [bst_next hak hem, HPJ.out, ← hq, pat_of htq])
          have HLS : Hid (∀ wz : World, Calls Try.prog 54 #[.float .f64 jp, .float .f64 qp] wz fun e w' => e = .returned (.bool (ls jp qp)) ∧ Grow wz w') := fun wz => (refLess_any jp qp wz (by omega) (by omega)).mono (fun e w' h => ⟨h.1, by rw [h.2]; exact But.refl _ _⟩)
          clear hak hem hq hqn htq
          cases hls : ls jp qp with
          | true =>
            rw [hls] at HLS HB2
            go_upto_region 5 with fail
            refine region_chain [] [0, 1, 2, 3, 4, 5, 6, 7, 8, 9, 10, 11, 12, 13, 14, 15, 16, 17, 18, 19, 20, 21, 22, 23, 24, 25, 26, 27, 28, 29, 30] (Grow wr) (Grow wr) (by kernel_rfl) (by kernel_rfl) (fun _ _ h k => h.trans k) (fun _ h => h) ((But.refl _ wr).drew) ?_
            intro ι hne X hX
            have x0 : ∀ z, (X z).cell? ⟨gx, 0, none⟩ = some (.slice (some ⟨gy, 0, none⟩) n cap) := fun z => (HROW.out.but (HG.out.trans (hX z)) (fun h => h)).cell 0
            have x1 : ∀ z, (X z).cell? ⟨gy, j * 3, none⟩ = some (.bool true) := fun z => (HH.out.grow (HG.out.trans (hX z))).cell HTJ.out (c := 0) rfl
            have x2 : ∀ z, (X z).cell? ⟨gy, j * 3 + 2, none⟩ = some (.float .f64 jp) := fun z => (HH.out.grow (HG.out.trans (hX z))).cell HTJ.out (c := 2) rfl
            have x3 : ∀ z, (X z).cell? ⟨gy, q * 3 + 2, none⟩ = some (.float .f64 qp) := fun z => (HH.out.grow (HG.out.trans (hX z))).cell HTQ.out (c := 2) rfl
            iterate 28 (refine still_step rfl (fun K hK => ?_); go_simp; refine hK _ ?_; clear hK K)
            refine still_call rfl (.bool true) 54 #[.float .f64 jp, .float .f64 qp] rfl (fun x => by kernel_rfl) (fun x => HLS.out _) ?_
            intro K hK; go_simp; refine hK _ ?_; clear hK K
            iterate 2 (refine still_step rfl (fun K hK => ?_); go_simp; refine hK _ ?_; clear hK K)
            refine still_nil ?_
            clear hX hne x0 x1 x2 x3
            intro w5 hw5
            have HW5 := Hid.mk' (HG.out.trans hw5)
            clear hw5
            go_wp2
            exact ⟨⟨j + 1, (j : Int), by omega, by go_num, rfl, HB2.out, HW5.out⟩, by simp [intOf]; omega⟩
          | false =>
            rw [hls] at HLS HB2
            go_upto_region 5 with fail
            refine region_chain [] [0, 1, 2, 3, 4, 5, 6, 7, 8, 9, 10, 11, 12, 13, 14, 15, 16, 17, 18, 19, 20, 21, 22, 23, 24, 25, 26, 27, 28, 29, 30] (Grow wr) (Grow wr) (by kernel_rfl) (by kernel_rfl) (fun _ _ h k => h.trans k) (fun _ h => h) ((But.refl _ wr).drew) ?_
            intro ι hne X hX
            have x0 : ∀ z, (X z).cell? ⟨gx, 0, none⟩ = some (.slice (some ⟨gy, 0, none⟩) n cap) := fun z => (HROW.out.but (HG.out.trans (hX z)) (fun h => h)).cell 0
            have x1 : ∀ z, (X z).cell? ⟨gy, j * 3, none⟩ = some (.bool true) := fun z => (HH.out.grow (HG.out.trans (hX z))).cell HTJ.out (c := 0) rfl
            have x2 : ∀ z, (X z).cell? ⟨gy, j * 3 + 2, none⟩ = some (.float .f64 jp) := fun z => (HH.out.grow (HG.out.trans (hX z))).cell HTJ.out (c := 2) rfl
            have x3 : ∀ z, (X z).cell? ⟨gy, q * 3 + 2, none⟩ = some (.float .f64 qp) := fun z => (HH.out.grow (HG.out.trans (hX z))).cell HTQ.out (c := 2) rfl
            iterate 28 (refine still_step rfl (fun K hK => ?_); go_simp; refine hK _ ?_; clear hK K)
            refine still_call rfl (.bool false) 54 #[.float .f64 jp, .float .f64 qp] rfl (fun x => by kernel_rfl) (fun x => HLS.out _) ?_
            intro K hK; go_simp; refine hK _ ?_; clear hK K
            iterate 2 (refine still_step rfl (fun K hK => ?_); go_simp; refine hK _ ?_; clear hK K)
            refine still_nil ?_
            clear hX hne x0 x1 x2 x3
            intro w5 hw5
            have HW5 := Hid.mk' (HG.out.trans hw5)
            clear hw5
            go_wp2
            exact ⟨⟨j + 1, (q : Int), by omega, by go_num, rfl, HB2.out, HW5.out⟩, by simp [intOf]; omega⟩
    · have hje : j = n := by omega
      have hAW : awN T = awU T j := by unfold awN; rw [hje, HN.out]
      cases hem : awU T j with
      | nil =>
        have hB0 : B = -1 := by rw [HB.out]; unfold bst; rw [hem]
        subst hB0
        have HFIN : Hid ((nxI T = 0 ∧ (awN T).isEmpty = true) ∧ RrTo w gx gy cap (nxS T) wr) := Hid.mk' (by
          rw [hem] at hAW
          refine ⟨⟨by unfold nxI; rw [hAW], by rw [hAW]; rfl⟩, ?_⟩
          rw [show nxS T = T from by unfold nxS; rw [hAW]; rfl]
          exact HH.out.same HG.out)
        clear hAW hem hje
        go_wp2
        go_ret2
        refine ⟨?_, HFIN.out.2⟩
        rw [HFIN.out.1.1, HFIN.out.1.2]
        rfl
      | cons a l =>
        rw [hem] at hAW
        obtain ⟨q, hq⟩ : ∃ q, q = nx1 T l a := ⟨_, rfl⟩
        have hBq : B = (q : Int) := by rw [HB.out, hq]; unfold bst; rw [hem]
        subst hBq
        have hqn : q < n := by
          have h1 : q ∈ awU T j := by
            rw [hem, hq]
            rcases nx1_mem T l a with e | e
            · rw [e]; exact List.mem_cons_self
            · exact List.mem_cons_of_mem _ e
          have := (awU_lt h1).1
          omega
        have hqi : (q : Int) < (n : Int) := by omega
        have hq0 : ¬ (q : Int) < 0 := by omega
        obtain ⟨⟨tw, tp, ta⟩, ht⟩ : ∃ t, T[q]? = some t := ⟨_, List.getElem?_eq_getElem (by have := HN.out; omega)⟩
        have HT := Hid.mk' ht
        have htok := HH.out.ok.ok _ (List.mem_of_getElem? ht)
        have HTOK := Hid.mk' htok
        obtain ⟨d, hd⟩ : ∃ d, d = fdv tw := ⟨_, rfl⟩
        have hdl := (div_one htok.1.1 htok.1.2).2.1
        dsimp only at hdl
        rw [← hd] at hdl
        obtain ⟨p, hp⟩ : ∃ p, p = fad tp d := ⟨_, rfl⟩
        have HQUO : Hid (∀ wz : World, (binOp .quo 31 (.float .f64 4607182418800017408) (.float .f64 tw)).run Try.prog wz = .ok (.float .f64 d) wz) := fun wz => by rw [hd]; exact quo_runF _ htok.1.1 htok.1.2 wz
        have HADD : Hid (∀ wz : World, (binOp .add 31 (.float .f64 tp) (.float .f64 d)).run Try.prog wz = .ok (.float .f64 p) wz) := fun wz => by rw [hp]; exact add_runF _ htok.2 (by omega) wz
        have HPL : Hid (p ≤ 9218868437227405312) := Hid.mk' (by rw [hp]; exact fad_le _ _)
        have HRES : Hid (nxS T = T.set q ⟨tw, p, ta⟩ ∧ nxI T = q ∧ (awN T).isEmpty = false) := Hid.mk' (by
          have e1 : nxI T = q := by unfold nxI; rw [hAW]; exact hq.symm
          refine ⟨?_, e1, by rw [hAW]; rfl⟩
          unfold nxS
          rw [e1, hAW]
          show nxT T q = _
          unfold nxT
          rw [HT.out, hp, hd])
        clear hAW hem hje hq ht htok hd hdl hp hqn
        go_upto_region 9 with fail
        refine region_chain [([0, 1, 2, 3, 4, 5, 6, 7, 8, 9, 10, 11, 12, 13, 14, 15, 16, 17, 18, 19, 20, 21, 22, 23, 24], 25)] [] (Grow w) (Grow w) (by kernel_rfl) (by kernel_rfl) (fun _ _ h k => h.trans k) (fun _ h => h) (HG.out.drew) ?_
        intro ι hne X hX
        have x0 : ∀ z, (X z).cell? ⟨gx, 0, none⟩ = some (.slice (some ⟨gy, 0, none⟩) n cap) := fun z => (HROW.out.but (hX z) (fun h => h)).cell 0
        have x1 : ∀ z, (X z).cell? ⟨gy, q * 3 + 1, none⟩ = some (.float .f64 tw) := fun z => (HH.out.grow (hX z)).cell HT.out (c := 1) rfl
        have x2 : ∀ z, (X z).cell? ⟨gy, q * 3 + 2, none⟩ = some (.float .f64 tp) := fun z => (HH.out.grow (hX z)).cell HT.out (c := 2) rfl
        iterate 21 (refine still_step rfl (fun K hK => ?_); go_simp; refine hK _ ?_; clear hK K)
        refine still_val rfl (.float .f64 d) rfl (fun z => exec_quoF rfl rfl rfl (HQUO.out _)) ?_
        intro K hK; go_simp; refine hK _ ?_; clear hK K
        refine still_val rfl (.float .f64 p) rfl (fun z => exec_addF rfl rfl rfl (HADD.out _)) ?_
        intro K hK; go_simp; refine hK _ ?_; clear hK K
        iterate 2 (refine still_step rfl (fun K hK => ?_); go_simp; refine hK _ ?_; clear hK K)
        refine still_nil ?_
        clear hX hne x0 x1 x2 X ι
        refine turn_run rfl rfl (fun _ w2 => RrTo w gx gy cap (T.set q ⟨tw, p, ta⟩) w2) (fun _ _ => True) (fun _ _ _ h k => h.then k) (fun _ _ _ => trivial) (.inl (by kernel_rfl)) ?_ ?_
        · rintro w5 h1
          obtain ⟨M, hM, hl⟩ := (HH.out.grow h1).blk HT.out (c := 2) (by decide)
          have h2 := (HH.out.grow h1).set HT.out (c := 2) (u := .float .f64 p) (t' := ⟨tw, p, ta⟩) (by decide) rfl ⟨HTOK.out.1, HPL.out⟩
          exact turn_store iFl rfl rfl rfl rfl hM hl ⟨h2.rr, (h1.mono (fun _ _ h => h.elim)).trans h2.but⟩
        rintro v5 - Y hY
        go_simp
        refine hY _ ?_
        clear hY Y
        intro ι hne X hX
        refine still_nil ?_
        clear hX hne
        intro w6 hw6
        have HF := Hid.mk' hw6
        clear hw6
        go_wp2
        go_ret2
        refine ⟨?_, by rw [HRES.out.1]; exact HF.out⟩
        rw [HRES.out.2.1, HRES.out.2.2]
        rfl
theorem rnew_not (w : World) (n : Int) (h : n < 1 ∨ 8 < n) : Calls Try.prog 11 #[.int .i64 n] w fun e w' => e = .returned (.pointer none) ∧ w' = w := by
  rcases (by omega : n < 1 ∨ (¬ n < 1 ∧ 8 < n)) with h1 | ⟨h1, h2⟩
  all_goals
    go_enter Try.func11, Try.ntmps11
    go_wp2
    go_ret
    exact ⟨rfl, rfl⟩
def RnTo (w : World) (n : Nat) (e : Ending) (w' : World) : Prop := ∃ gx gy cap, e = .returned (ptr gx) ∧ Rr w' gx gy cap (fresh n) ∧ Grow w w' ∧ w.heap.size ≤ gx ∧ w.heap.size ≤ gy
theorem fresh_succ (i : Nat) : fresh (i + 1) = fresh i ++ [⟨4607182418800017408, 0, false⟩] := by unfold fresh; rw [List.replicate_succ']
set_option maxRecDepth 100000 in
set_option maxHeartbeats 2000000 in
theorem rnew_any (w : World) (n : Nat) (h1 : 1 ≤ n) (h8 : n ≤ 8) : Calls Try.prog 11 #[.int .i64 (n : Int)] w (RnTo w n) := by
  have t1 : ¬ (n : Int) < 1 := by omega
  have t8 : ¬ (8 : Int) < (n : Int) := by omega
  obtain ⟨gx, hgx⟩ : ∃ gx, gx = w.heap.size := ⟨_, rfl⟩
  have k1 : Grow w (w.alloc (.cells #[.slice none 0 0] 74)) := (But.refl _ _).alloc _
  have b1 : Blk (w.alloc (.cells #[.slice none 0 0] 74)) gx 74 [.slice none 0 0] := Blk.new (L := [.slice none 0 0]) hgx.symm
  have HK1 := Hid.mk' k1
  have HB1 := Hid.mk' b1
  have HGX := Hid.mk' hgx
  have H1 := Hid.mk' h1
  have H8 := Hid.mk' h8
  have hn8 : (n : Int) ≤ 8 := by omega
  clear k1 b1 hgx h1 h8
  go_enter Try.func11, Try.ntmps11
  go_upto_region 4 with (first
    | (refine wpList_build_run rfl _ [] rfl [] rfl _ (bldRr _) ?_)
    | fail)
  rw [← HGX.out]
  generalize w.alloc (.cells #[.slice none 0 0] 74) = w1 at *
  go_wp2
  go_loopw [4] (fun iv wr => ∃ (i : Nat) (v : Value), i ≤ n ∧ iv = .int .i64 i ∧ Blk wr gx 74 [v] ∧ wr.ownsRow 0 76 3 v i ((fresh i).flatMap tkc) ∧ (∀ b, v.ownBlock = some b → w1.heap.size ≤ b) ∧ Grow w wr ∧ w1.heap.size ≤ wr.heap.size) (fun iv _ => n - (intOf iv).toNat)
  case atStart => exact ⟨0, _, Nat.zero_le _, rfl, HB1.out, World.ownsRow_nil _ _ _ _, (fun b hb => by cases hb), HK1.out, Nat.le_refl _⟩
  case round =>
    obtain ⟨i, v, hin, rfl, hb, hrow, hv, hg, hsz⟩ := hrel
    by_cases hlt : i < n
    · have hlti : (i : Int) < (n : Int) := by omega
      obtain ⟨va, vc, e1⟩ := own_sl hrow
      subst e1
      have c0 : wr.cell? ⟨gx, 0, none⟩ = some (.slice va i vc) := hb.cell 0
      have HB := Hid.mk' hb
      have HROW := Hid.mk' hrow
      have HV := Hid.mk' hv
      have HG := Hid.mk' hg
      have HSZ := Hid.mk' hsz
      have hgl : gx < w1.heap.size := HB1.out.lt
      have HGL := Hid.mk' hgl
      have HVX : Hid (¬ (Value.slice va i vc).ownBlock = some gx) := fun e => by have := HV.out gx e; have := HGL.out; omega
      have HAL : Hid (Grow wr (wr.alloc (.cells #[.bool false, .float .f64 4607182418800017408, .float .f64 0] 76))) := (But.refl _ wr).alloc _
      have HBL : Hid (Blk (wr.alloc (.cells #[.bool false, .float .f64 4607182418800017408, .float .f64 0] 76)) wr.heap.size 76 (tkc ⟨4607182418800017408, 0, false⟩)) := Blk.new (L := tkc ⟨4607182418800017408, 0, false⟩) rfl
      have HI8 : Hid (i ≤ 8) := Hid.mk' (by have := H8.out; omega)
      clear hb hrow hv hg hsz hgl hin
      go_upto_region 6 with (first
        | (refine wpList_build_run rfl _ [_] rfl [(1, .float .f64 4607182418800017408)] rfl _ (bldTk _) ?_)
        | (refine wpList_runH rfl (exec_row1 (v := .agg #[.bool false, .float .f64 4607182418800017408, .float .f64 0]) Try.underlying72 infTk (by decide) (by decide) rfl rfl rfl) ?_)
        | (refine wpList_someH rfl (exec_append (v := .slice va i vc) (n := i) (xs := (fresh i).flatMap tkc) (news := tkc ⟨4607182418800017408, 0, false⟩) Try.underlying72 infTk rfl (by decide) rfl rfl (ownsRow_grow HROW.out HAL.out) rfl rfl (fun j u hj => HBL.out.cells0 j u hj) (tkc_one _) (by have := HI8.out; omega) (by decide)) ?_; intro v4 w4 hap; obtain ⟨a4, c4, e4⟩ := own_sl hap.own; subst e4; have HB4 := Hid.mk' ((HB.out.but HAL.out (fun h => h)).but hap.but HVX.out))
        | (refine wpList_skipH rfl (exec_store (g := gx) (i := 0) (v := .slice a4 (i + 1) c4) iTs rfl rfl rfl rfl HB4.out (by simp)) ?_)
        | fail)
      have hap' : Appd (wr.alloc (.cells #[.bool false, .float .f64 4607182418800017408, .float .f64 0] 76)) w4 76 3 (.slice va i vc) (.slice a4 (i + 1) c4) (i + 1) ((fresh i).flatMap tkc ++ tkc ⟨4607182418800017408, 0, false⟩) := hap
      have ks := But.set1 w4 gx 0 (.slice a4 (i + 1) c4)
      have hv4 : ∀ b, (Value.slice a4 (i + 1) c4).ownBlock = some b → w1.heap.size ≤ b := fun b hb => by
        rcases hap'.at' with e | e
        · exact HV.out b (by rw [← e]; exact hb)
        · rw [e] at hb
          have := Option.some.inj hb
          have := HAL.out.size
          have := HSZ.out
          omega
      have HNEW : Hid (Blk (w4.setCell ⟨gx, 0, none⟩ (.slice a4 (i + 1) c4)) gx 74 [.slice a4 (i + 1) c4] ∧ (w4.setCell ⟨gx, 0, none⟩ (.slice a4 (i + 1) c4)).ownsRow 0 76 3 (.slice a4 (i + 1) c4) (i + 1) ((fresh (i + 1)).flatMap tkc) ∧ (∀ b, (Value.slice a4 (i + 1) c4).ownBlock = some b → w1.heap.size ≤ b) ∧ Grow w (w4.setCell ⟨gx, 0, none⟩ (.slice a4 (i + 1) c4)) ∧ w1.heap.size ≤ (w4.setCell ⟨gx, 0, none⟩ (.slice a4 (i + 1) c4)).heap.size) := Hid.mk' (by
        refine ⟨HB4.out.set 0 _, ?_, hv4, ?_, ?_⟩
        · rw [fresh_succ, List.flatMap_append, show ([⟨4607182418800017408, 0, false⟩] : List Sh).flatMap tkc = tkc ⟨4607182418800017408, 0, false⟩ by simp]
          exact ownsRow_but hap'.own ks (fun b hb e => by have := hv4 b hb; have := HGL.out; omega)
        · exact ((HG.out.trans HAL.out).then hap'.but (fun b hb e => by have := HV.out b e; have := HK1.out.size; omega)).then ks (fun b hb e => by have := HGX.out; omega)
        · have z1 := HAL.out.size
          have z2 := hap'.but.size
          have z3 := ks.size
          have := HSZ.out
          omega)
      clear hap hap' ks hv4 c0
      go_wp2
      exact ⟨⟨i + 1, _, by omega, by go_num, HNEW.out⟩, by simp [intOf]; omega⟩
    · have hie : i = n := by omega
      subst hie
      have hfl : (fresh i).length = i := by unfold fresh; rw [List.length_replicate]
      have hro : RowOf wr (fun _ => True) 76 3 v i ((fresh i).flatMap tkc) := ⟨hrow, fun _ _ => trivial⟩
      obtain ⟨ao, cap, e1, hsh⟩ := hro.shape
      obtain ⟨gy, e2, -, -, -⟩ := hsh (by have := H1.out; omega)
      subst e2
      subst e1
      have hgy : w1.heap.size ≤ gy := hv gy rfl
      have hgl : gx < w1.heap.size := HB1.out.lt
      have HFIN : Hid (RnTo w i (.returned (ptr gx)) wr) := Hid.mk' ⟨gx, gy, cap, rfl, ⟨by rw [hfl]; exact hb, by rw [hfl]; exact hro, by omega, fresh_ok H1.out H8.out⟩, hg, by have := HGX.out; omega, by have := HK1.out.size; omega⟩
      clear hb hrow hv hg hsz hro hsh hgy hgl hin hfl
      go_wp2
      go_ret
      exact HFIN.out
end
end Go.Proofs.Ytidblaepklgkcaa
