/- The reference's row. -/
import Derived.Test.YtidblaepklgkcaaFaAwake
namespace Go.Proofs.Ytidblaepklgkcaa
open Go.RowKit

def tkc (t : Sh) : List Value := [.bool t.a, .float .f64 t.w, .float .f64 t.p]
theorem tkc_len (t : Sh) : (tkc t).length = 3 := rfl
theorem infTk : (Try.prog.info? 76).map (fun i => (i.zero, i.size, i.bytes)) = some (some (.agg #[.bool false, .float .f64 0, .float .f64 0]), 3, 24) := by kernel_rfl
theorem iTs : (Try.prog.info? 72).map (·.size) = some 1 := by kernel_rfl
theorem tkc_one (t : Sh) : ∀ u ∈ tkc t, u.oneCell' = true := by
  intro u hu
  unfold tkc at hu
  simp only [List.mem_cons, List.not_mem_nil, or_false] at hu
  rcases hu with rfl | rfl | rfl <;> rfl
structure Rr (w : World) (gx gy cap : Nat) (T : List Sh) : Prop where
  row : Blk w gx 74 [.slice (some ⟨gy, 0, none⟩) T.length cap]
  tsk : RowOf w (fun _ => True) 76 3 (.slice (some ⟨gy, 0, none⟩) T.length cap) T.length (T.flatMap tkc)
  ne : gx ≠ gy
  ok : Fok T
structure RrTo (w : World) (gx gy cap : Nat) (T : List Sh) (w' : World) : Prop where
  rr : Rr w' gx gy cap T
  but : But (· = gy) w w'
section
variable {w w' : World} {gx gy cap : Nat} {T : List Sh} {i : Int} {k c : Nat} {t t' : Sh} {u : Value} {R : Nat → Prop}
theorem Rr.but (h : Rr w gx gy cap T) (k : But R w w') (h1 : ¬ R gx) (h2 : ¬ R gy) : Rr w' gx gy cap T := ⟨h.row.but k h1, ⟨ownsRow_but h.tsk.own k (fun j hj => by cases hj; exact h2), fun _ _ => trivial⟩, h.ne, h.ok⟩
theorem Rr.grow (h : Rr w gx gy cap T) (k : Grow w w') : Rr w' gx gy cap T := h.but k (fun h => h) (fun h => h)
theorem Rr.same (h : Rr w gx gy cap T) (k : Grow w w') : RrTo w gx gy cap T w' := ⟨h.grow k, k.mono (fun _ _ h => h.elim)⟩
theorem RrTo.then {w2 : World} (h : RrTo w gx gy cap T w') (k : Grow w' w2) : RrTo w gx gy cap T w2 := ⟨h.rr.grow k, h.but.trans (k.mono (fun _ _ h => h.elim))⟩
theorem Rr.cell (h : Rr w gx gy cap T) (hi : T[k]? = some t) (hc : (tkc t)[c]? = some u) : w.cell? ⟨gy, k * 3 + c, none⟩ = some u := by
  obtain ⟨g, cp, e, -, hcell⟩ := h.tsk.cellAt (fun x _ => tkc_len x) hi
  simp only [Value.slice.injEq, Option.some.injEq, Addr.mk.injEq, and_true] at e
  rw [e.1]
  exact hcell c u hc
theorem Rr.blk (h : Rr w gx gy cap T) (hi : T[k]? = some t) (hc : c < 3) : ∃ M, Blk w gy 76 M ∧ k * 3 + c < M.length := by
  obtain ⟨M, hM, hl⟩ := h.tsk.blk
  refine ⟨M, hM, ?_⟩
  rw [flat_len' T (fun x _ => tkc_len x)] at hl
  have := (List.getElem?_eq_some_iff.1 hi).1
  omega
theorem Rr.set (h : Rr w gx gy cap T) (hi : T[k]? = some t) (hc : c < 3) (ht : tkc t' = (tkc t).set c u) (hok : (4562146422526312448 ≤ t'.w ∧ t'.w ≤ 4652218415073722368) ∧ t'.p ≤ 9218868437227405312) : RrTo w gx gy cap (T.set k t') (w.setCell ⟨gy, k * 3 + c, none⟩ u) := by
  have ks := But.set1 w gy (k * 3 + c) u
  refine ⟨⟨?_, h.tsk.setAt (fun x _ => tkc_len x) hi hc ht, h.ne, h.ok.set _ hok⟩, ks⟩
  rw [List.length_set]
  exact h.row.but ks h.ne
set_option maxRecDepth 100000 in
theorem rhas_any (h : Rr w gx gy cap T) : Calls Try.prog 49 #[ptr gx, .int .i64 i] w fun e w' => e = .returned (.bool (inR T i)) ∧ w' = w := by
  obtain ⟨n, hn⟩ : ∃ n, n = T.length := ⟨_, rfl⟩
  have c0 : w.cell? ⟨gx, 0, none⟩ = some (.slice (some ⟨gy, 0, none⟩) n cap) := by rw [hn]; exact h.row.cell 0
  have hr : inR T i = decide (0 ≤ i ∧ i < (n : Int)) := by unfold inR; rw [hn]
  rw [hr]
  clear h hn hr
  rcases (by omega : ¬ 0 ≤ i ∨ (0 ≤ i ∧ ¬ i < (n : Int)) ∨ (0 ≤ i ∧ i < (n : Int))) with h1 | ⟨h1, h2⟩ | ⟨h1, h2⟩
  · rw [decide_eq_false (by omega)]
    go_enter Try.func49, Try.ntmps49
    go_wp2
    go_ret
    exact ⟨rfl, rfl⟩
  · rw [decide_eq_false (by omega)]
    go_enter Try.func49, Try.ntmps49
    go_wp2
    go_ret
    exact ⟨by simp, rfl⟩
  · rw [decide_eq_true (by omega)]
    go_enter Try.func49, Try.ntmps49
    go_wp2
    go_ret
    exact ⟨by simp, rfl⟩
theorem wgt_at (hr : inR T (k : Int) = true) (ht : T[k]? = some t) (x : Nat) : wgt T (k : Int) x = T.set k ⟨rw' x, t.p, t.a⟩ := by unfold wgt; rw [hr, if_pos rfl, Int.toNat_natCast, pat_of ht, awk_of ht]
theorem slp_at (hr : inR T (k : Int) = true) (ht : T[k]? = some t) : slp T (k : Int) = T.set k ⟨t.w, t.p, false⟩ := by unfold slp; rw [hr, if_pos rfl, Int.toNat_natCast, pat_of ht, ht]; rfl
theorem wak_at (hr : inR T (k : Int) = true) (ht : T[k]? = some t) : wak T (k : Int) = wkT T k t := by unfold wak; rw [hr, if_pos rfl, Int.toNat_natCast, ht]
theorem cod_in (hr : inR T i = true) : cod T i = 0 := by unfold cod; rw [hr]; rfl
theorem cod_out (hr : inR T i = false) : cod T i = 1 := by unfold cod; rw [hr]; rfl
set_option maxRecDepth 100000 in
set_option maxHeartbeats 2000000 in
theorem rweight_any (h : Rr w gx gy cap T) {x : Nat} (hx : x < 18446744073709551616) : Calls Try.prog 30 #[ptr gx, .int .i64 i, .float .f64 x] w fun e w' => e = .returned (.int .i64 (cod T i)) ∧ RrTo w gx gy cap (wgt T i x) w' := by
  have HFA := Hid.mk' (rhas_any (i := i) h)
  cases hr : inR T i with
  | false =>
    have HS := Hid.mk' (h.same (But.refl _ w))
    rw [hr] at HFA
    rw [cod_out hr, show wgt T i x = T by unfold wgt; rw [hr]; rfl]
    clear h hr
    go_enter Try.func30, Try.ntmps30
    go_wp2_with fail
    refine Calls.mono HFA.out ?_
    rintro e w' ⟨rfl, hw⟩
    have h2 := hw.symm
    subst h2
    clear hw
    go_wp2
    go_ret
    exact ⟨rfl, HS.out⟩
  | true =>
    rw [hr] at HFA
    obtain ⟨k, t, rfl, ht, hk⟩ := inR_iff hr
    rw [cod_in hr, wgt_at hr ht]
    obtain ⟨n, hn⟩ : ∃ n, n = T.length := ⟨_, rfl⟩
    have HH := Hid.mk' h
    have HROW : Hid (Blk w gx 74 [.slice (some ⟨gy, 0, none⟩) n cap]) := Hid.mk' (by rw [hn]; exact h.row)
    have hkn : (k : Int) < (n : Int) := by omega
    have hn8 : (n : Int) ≤ 8 := by have := h.ok.n8; omega
    have HT := Hid.mk' ht
    have HOK := Hid.mk' (rw_ok hx)
    have hne := ne_self x hx
    obtain ⟨z, hz⟩ : ∃ z, z = if nn x then 4607182418800017408 else x := ⟨_, rfl⟩
    have hzl : z < 18446744073709551616 := by rw [hz]; split <;> omega
    have hcl : cl z 4562146422526312448 4652218415073722368 = rw' x := by
      rw [hz]
      unfold rw'
      cases nn x with
      | true => rw [if_pos rfl, if_pos rfl]; decide +kernel
      | false => rfl
    have HRT : Hid (∀ wz : World, Calls Try.prog 50 #[.float .f64 z, .float .f64 4562146422526312448, .float .f64 4652218415073722368] wz fun e w' => e = .returned (.float .f64 (rw' x)) ∧ Grow wz w') := fun wz => (refClamp_any z _ _ wz hzl (by decide) (by decide)).mono (fun e w' h => ⟨by rw [h.1, hcl], by rw [h.2]; exact But.refl _ _⟩)
    obtain ⟨y, hy⟩ : ∃ y, y = rw' x := ⟨_, rfl⟩
    rw [← hy] at HRT HOK ⊢
    have HFIN : Hid (∀ w5, Grow w w5 → RrTo w gx gy cap (T.set k ⟨y, t.p, t.a⟩) (w5.setCell ⟨gy, k * 3 + 1, none⟩ (.float .f64 y))) := fun w5 h1 => by
      have h2 := (HH.out.grow h1).set HT.out (c := 1) (u := .float .f64 y) (t' := ⟨y, t.p, t.a⟩) (by decide) rfl ⟨HOK.out, (HH.out.ok.ok t (List.mem_of_getElem? HT.out)).2⟩
      exact ⟨h2.rr, (h1.mono (fun _ _ h => h.elim)).trans h2.but⟩
    clear h hr ht hk hn hx hy hcl hzl
    cases hnn : nn x with
    | true =>
      rw [hnn] at hne hz
      have hz2 : z = 4607182418800017408 := hz
      subst hz2
      clear hz
      go_enter Try.func30, Try.ntmps30
      go_wp2_with fail
      refine Calls.mono HFA.out ?_
      rintro e w' ⟨rfl, hw⟩
      have h2 := hw.symm
      subst h2
      clear hw
      go_upto_region 5 with fail
      refine region_chain [([0, 1, 2, 3, 4, 5, 6, 7, 8], 9)] [] (Grow w) (Grow w) (by kernel_rfl) (by kernel_rfl) (fun _ _ h k => h.trans k) (fun _ h => h) ((But.refl _ w).drew) ?_
      intro ι hne2 X hX
      have d0 : ∀ z, (X z).cell? ⟨gx, 0, none⟩ = some (.slice (some ⟨gy, 0, none⟩) n cap) := fun z => (HROW.out.but (hX z) (fun h => h)).cell 0
      iterate 6 (refine still_step rfl (fun K hK => ?_); go_simp; refine hK _ ?_; clear hK K)
      refine still_call rfl (.float .f64 y) 50 #[.float .f64 4607182418800017408, .float .f64 4562146422526312448, .float .f64 4652218415073722368] rfl (fun x => by kernel_rfl) (fun x => HRT.out _) ?_
      intro K hK; go_simp; refine hK _ ?_; clear hK K
      iterate 2 (refine still_step rfl (fun K hK => ?_); go_simp; refine hK _ ?_; clear hK K)
      refine still_nil ?_
      clear hX hne2 d0 X ι
      refine turn_run rfl rfl (fun _ w2 => RrTo w gx gy cap (T.set k ⟨y, t.p, t.a⟩) w2) (fun _ _ => True) (fun _ _ _ h k => h.then k) (fun _ _ _ => trivial) (.inl (by kernel_rfl)) ?_ ?_
      · rintro w5 h1
        obtain ⟨M, hM, hl⟩ := (HH.out.grow h1).blk HT.out (c := 1) (by decide)
        exact turn_store iFl rfl rfl rfl rfl hM hl (HFIN.out w5 h1)
      rintro v5 - Y hY
      go_simp
      refine hY _ ?_
      clear hY Y
      intro ι hne2 X hX
      refine still_nil ?_
      clear hX hne2
      intro w6 hw6
      have HF := Hid.mk' hw6
      clear hw6
      go_wp2
      go_ret
      exact ⟨rfl, HF.out⟩
    | false =>
      rw [hnn] at hne hz
      have hz2 : z = x := hz
      subst hz2
      clear hz
      go_enter Try.func30, Try.ntmps30
      go_wp2_with fail
      refine Calls.mono HFA.out ?_
      rintro e w' ⟨rfl, hw⟩
      have h2 := hw.symm
      subst h2
      clear hw
      go_upto_region 5 with fail
      refine region_chain [([0, 1, 2, 3, 4, 5, 6, 7, 8], 9)] [] (Grow w) (Grow w) (by kernel_rfl) (by kernel_rfl) (fun _ _ h k => h.trans k) (fun _ h => h) ((But.refl _ w).drew) ?_
      intro ι hne2 X hX
      have d0 : ∀ z, (X z).cell? ⟨gx, 0, none⟩ = some (.slice (some ⟨gy, 0, none⟩) n cap) := fun z => (HROW.out.but (hX z) (fun h => h)).cell 0
      iterate 6 (refine still_step rfl (fun K hK => ?_); go_simp; refine hK _ ?_; clear hK K)
      refine still_call rfl (.float .f64 y) 50 #[.float .f64 z, .float .f64 4562146422526312448, .float .f64 4652218415073722368] rfl (fun x => by kernel_rfl) (fun x => HRT.out _) ?_
      intro K hK; go_simp; refine hK _ ?_; clear hK K
      iterate 2 (refine still_step rfl (fun K hK => ?_); go_simp; refine hK _ ?_; clear hK K)
      refine still_nil ?_
      clear hX hne2 d0 X ι
      refine turn_run rfl rfl (fun _ w2 => RrTo w gx gy cap (T.set k ⟨y, t.p, t.a⟩) w2) (fun _ _ => True) (fun _ _ _ h k => h.then k) (fun _ _ _ => trivial) (.inl (by kernel_rfl)) ?_ ?_
      · rintro w5 h1
        obtain ⟨M, hM, hl⟩ := (HH.out.grow h1).blk HT.out (c := 1) (by decide)
        exact turn_store iFl rfl rfl rfl rfl hM hl (HFIN.out w5 h1)
      rintro v5 - Y hY
      go_simp
      refine hY _ ?_
      clear hY Y
      intro ι hne2 X hX
      refine still_nil ?_
      clear hX hne2
      intro w6 hw6
      have HF := Hid.mk' hw6
      clear hw6
      go_wp2
      go_ret
      exact ⟨rfl, HF.out⟩
set_option maxRecDepth 100000 in
set_option maxHeartbeats 1000000 in
theorem rsleep_any (h : Rr w gx gy cap T) : Calls Try.prog 34 #[ptr gx, .int .i64 i] w fun e w' => e = .returned (.int .i64 (cod T i)) ∧ RrTo w gx gy cap (slp T i) w' := by
  have HFA := Hid.mk' (rhas_any (i := i) h)
  cases hr : inR T i with
  | false =>
    have HS := Hid.mk' (h.same (But.refl _ w))
    rw [hr] at HFA
    rw [cod_out hr, show slp T i = T by unfold slp; rw [hr]; rfl]
    clear h hr
    go_enter Try.func34, Try.ntmps34
    go_wp2_with fail
    refine Calls.mono HFA.out ?_
    rintro e w' ⟨rfl, hw⟩
    have h2 := hw.symm
    subst h2
    clear hw
    go_wp2
    go_ret
    exact ⟨rfl, HS.out⟩
  | true =>
    rw [hr] at HFA
    obtain ⟨k, t, rfl, ht, hk⟩ := inR_iff hr
    rw [cod_in hr, slp_at hr ht]
    obtain ⟨n, hn⟩ : ∃ n, n = T.length := ⟨_, rfl⟩
    have c0 : w.cell? ⟨gx, 0, none⟩ = some (.slice (some ⟨gy, 0, none⟩) n cap) := by rw [hn]; exact h.row.cell 0
    have hkn : (k : Int) < (n : Int) := by omega
    have hn8 : (n : Int) ≤ 8 := by have := h.ok.n8; omega
    obtain ⟨M, hM, hl⟩ := h.blk ht (c := 0) (by decide)
    have HM := Hid.mk' hM
    have HL : Hid (k * 3 < M.length) := Hid.mk' hl
    have HFIN : Hid (RrTo w gx gy cap (T.set k ⟨t.w, t.p, false⟩) (w.setCell ⟨gy, k * 3, none⟩ (.bool false))) := h.set ht (c := 0) (u := .bool false) (t' := ⟨t.w, t.p, false⟩) (by decide) rfl (h.ok.ok t (List.mem_of_getElem? ht))
    clear h hr ht hk hn hM hl
    go_enter Try.func34, Try.ntmps34
    go_wp2_with fail
    refine Calls.mono HFA.out ?_
    rintro e w' ⟨rfl, hw⟩
    have h2 := hw.symm
    subst h2
    clear hw
    go_wp2_with (first
      | (refine wpList_skipH rfl (exec_store (g := gy) (i := k * 3) (v := .bool false) iBo rfl rfl rfl rfl HM.out HL.out) ?_)
      | fail)
    go_ret
    exact ⟨rfl, HFIN.out⟩
set_option maxRecDepth 100000 in
set_option maxHeartbeats 1000000 in
theorem rawake_list (h : Rr w gx gy cap T) : Calls Try.prog 35 #[ptr gx] w fun e w' => ∃ v, e = .returned v ∧ w'.ownsRow 0 3 1 v (ints (awN T)).length (numv (ints (awN T))) ∧ (∀ k, v.ownBlock = some k → w.heap.size ≤ k) ∧ Grow w w' := by
  obtain ⟨n, hn⟩ : ∃ n, n = T.length := ⟨_, rfl⟩
  have HROW : Hid (Blk w gx 74 [.slice (some ⟨gy, 0, none⟩) n cap]) := Hid.mk' (by rw [hn]; exact h.row)
  have HH := Hid.mk' h
  have HN := Hid.mk' hn
  have hn8 : (n : Int) ≤ 8 := by have := h.ok.n8; omega
  unfold awN
  rw [← hn]
  clear h hn
  go_enter Try.func35, Try.ntmps35
  go_wp2
  go_loopw [3, 4] (fun rv iv wr => ∃ (i : Nat) (r : Value), i ≤ n ∧ iv = .int .i64 i ∧ r = rv ∧ wr.ownsRow 0 3 1 r (ints (awU T i)).length (numv (ints (awU T i))) ∧ (∀ k, r.ownBlock = some k → w.heap.size ≤ k) ∧ Grow w wr) (fun _ iv _ => n - (intOf iv).toNat)
  case atStart => exact ⟨0, _, Nat.zero_le _, rfl, rfl, World.ownsRow_nil _ _ _ _, (fun k hk => by cases hk), But.refl _ _⟩
  case round =>
    rename_i rv
    obtain ⟨i, r, hin, rfl, rfl, hT, hV, hG⟩ := hrel
    have HT := Hid.mk' hT
    have HV := Hid.mk' hV
    have HG := Hid.mk' hG
    have c0 : wr.cell? ⟨gx, 0, none⟩ = some (.slice (some ⟨gy, 0, none⟩) n cap) := (HROW.out.but hG (fun h => h)).cell 0
    clear hT hV hG
    by_cases hlt : i < n
    · have hlti : (i : Int) < (n : Int) := by omega
      obtain ⟨⟨tw, tp, ta⟩, ht⟩ : ∃ t, T[i]? = some t := ⟨_, List.getElem?_eq_getElem (by have := HN.out; omega)⟩
      have d0 : wr.cell? ⟨gy, i * 3, none⟩ = some (.bool ta) := (HH.out.grow HG.out).cell ht (c := 0) rfl
      have HNX : Hid (awU T (i + 1) = awU T i ++ if ta then [i] else []) := Hid.mk' (by rw [awU_succ, awk_of ht])
      clear ht
      cases ta with
      | false =>
        have HN2 : Hid (awU T (i + 1) = awU T i) := Hid.mk' (by rw [HNX.out, if_neg (by decide), List.append_nil])
        go_wp2
        exact ⟨⟨i + 1, r, by omega, by go_num, rfl, by rw [HN2.out]; exact HT.out, HV.out, HG.out⟩, by simp [intOf]; omega⟩
      | true =>
        have HN2 : Hid (awU T (i + 1) = awU T i ++ [i]) := Hid.mk' (by rw [HNX.out, if_pos rfl])
        obtain ⟨F, hF⟩ : ∃ F, F = ints (awU T i) := ⟨_, rfl⟩
        rw [← hF] at HT
        have HFE := Hid.mk' hF
        have HFL : Hid (F.length ≤ 8) := Hid.mk' (by rw [hF, ints_len]; have := awU_len T i; omega)
        have HAL : Hid (Grow wr (wr.alloc (.cells #[.int .i64 (i : Int)] 3))) := (But.refl _ wr).alloc _
        have HBL : Hid (Blk (wr.alloc (.cells #[.int .i64 (i : Int)] 3)) wr.heap.size 3 (numv [(i : Int)])) := Blk.new (L := numv [(i : Int)]) rfl
        clear hF HNX
        go_wp2_with (first
          | (refine wpList_runH rfl (exec_row1 (v := .int .i64 (i : Int)) Try.underlying34 infNum (by decide) (by decide) rfl rfl rfl) ?_)
          | (refine wpList_someH rfl (exec_append (v := r) (n := F.length) (xs := numv F) (news := numv [(i : Int)]) Try.underlying34 infNum rfl (by decide) rfl rfl (ownsRow_grow HT.out HAL.out) rfl rfl (fun j u hj => HBL.out.cells0 j u hj) (fun u hu => by rw [show u = .int .i64 (i : Int) by simpa [numv] using hu]; rfl) (by have := HFL.out; omega) (by decide)) ?_; intro v4 w4 hap)
          | fail)
        refine ⟨⟨i + 1, v4, by omega, by go_num, rfl, ?_, fun k hk => ?_, ?_⟩, by simp [intOf]; omega⟩
        · rw [HN2.out, show ints (awU T i ++ [i]) = F ++ [(i : Int)] by rw [HFE.out]; unfold ints; rw [List.map_append]; rfl, List.length_append, List.length_singleton, show numv (F ++ [(i : Int)]) = numv F ++ numv [(i : Int)] by simp [numv]]
          exact hap.own
        · rcases hap.at' with e | e
          · exact HV.out k (by rw [← e]; exact hk)
          · rw [e] at hk
            have := Option.some.inj hk
            have := HG.out.size
            have := HAL.out.size
            omega
        · exact (HG.out.trans HAL.out).then hap.but (fun b hb e => by have := HV.out b e; omega)
    · have hie : i = n := by omega
      subst hie
      go_wp2
      go_ret
      exact ⟨_, rfl, HT.out, HV.out, HG.out⟩
end
end Go.Proofs.Ytidblaepklgkcaa
