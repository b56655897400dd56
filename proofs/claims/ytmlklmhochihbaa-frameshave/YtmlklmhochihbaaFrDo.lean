/- frames: Reserve, Warm, Get, Drop. -/
import Derived.Test.YtmlklmhochihbaaFrLeaf
namespace Go.Proofs.Ytmlklmhochihbaa
open Go.RowKit Go.Maps

theorem wpList_skipH {ops : Array Oper} {rest : List Oper} {o : Oper} {a : Act} {w w' : World} {Q : Exit → Act → World → Prop} (hgd : o.guard = none) (hr : (execOp a.eval o).run Try.prog w = .ok .skip w') (h : wpList Try.prog ops Q rest (a.put o.dst undef) w') : wpList Try.prog ops Q (o :: rest) a w :=
  wpList_plain hgd fun _ hK => by
    unfold Oper.wp
    rw [hr]
    exact hK _ _ h
theorem wrapI {x : Int} (h : -9223372036854775808 ≤ x) (h2 : x ≤ 9223372036854775807) : IntKind.i64.wrap x = x := by
  simp [IntKind.wrap, IntKind.bits, IntKind.signed]; omega
theorem reserve_nil (w : World) (t n : Int) : Calls Try.prog 20 #[.pointer none, .int .i64 t, .int .i64 n] w fun e w' => e = .returned (.int .i64 5) ∧ w' = w := by
  go_enter Try.func20, Try.ntmps20
  go_wp2
  go_ret
  exact ⟨rfl, rfl⟩
theorem warm_nil (w : World) (K : Int) (y : Nat) : Calls Try.prog 25 #[.pointer none, .int .i64 K, .float .f64 y] w fun e w' => e = .returned (.tuple #[]) ∧ w' = w := by
  go_enter Try.func25, Try.ntmps25
  go_wp2_with fail
  refine Calls.mono (find_nil w K) ?_
  rintro e w' ⟨rfl, rfl⟩
  go_wp2
  go_end0
  exact ⟨rfl, rfl⟩
theorem get_nil (w : World) (K : Int) : Calls Try.prog 18 #[.pointer none, .int .i64 K] w fun e w' => e = .returned (.tuple #[.slice none 0 0, .int .i64 5]) ∧ w' = w := by
  go_enter Try.func18, Try.ntmps18
  go_wp2_with fail
  refine Calls.mono (find_nil w K) ?_
  rintro e w' ⟨rfl, rfl⟩
  go_wp2
  exact bodyPost_ret (results_tmp2 rfl _ _ _) rfl ⟨rfl, rfl⟩
theorem fdrop_nil (w : World) (K : Int) : Calls Try.prog 15 #[.pointer none, .int .i64 K] w fun e w' => e = .returned (.int .i64 5) ∧ w' = w := by
  go_enter Try.func15, Try.ntmps15
  go_wp2_with fail
  refine Calls.mono (find_nil w K) ?_
  rintro e w' ⟨rfl, rfl⟩
  go_wp2
  go_ret
  exact ⟨rfl, rfl⟩
section
variable {w w' : World} {own own' : Owner} {gt gr gf gp gh gm : Nat} {fb : Int → Nat} {PL : List (Int × Int)} {s s' : St} {R : Nat → Prop}
theorem Fm.shareLook (h : Fm w own gt gr gf gp gh gm fb PL s) {t : Int} (ht : i64 t) : (Instr.lookup 81 (.map (some gr)) (.int .i64 t) false).run Try.prog w = .ok (.int .i64 (share s.sh t)) w := by
  have hl := h.res.look (t := 81) (et := 3) keyIa Try.underlying81 zInt (keyOfIa t ht) false
  by_cases hh : ∃ p ∈ s.sh, p.1 = t
  · obtain ⟨p, hp, rfl⟩ := hh
    rw [share_of h.ok.tn (n := p.2) hp]
    exact hl.1 p hp rfl
  · rw [share_none (fun p hp e => hh ⟨p, hp, e⟩)]
    exact hl.2 (fun p hp e => hh ⟨p, hp, iv_inj e⟩)
theorem Ft.one (h : Fm w own gt gr gf gp gh gm fb PL s) (hb : But (Wr own) w' w) : FtTo w' own gt s w := ⟨⟨own, ⟨_, _, _, _, _, _, _, h⟩, Ext.refl _, Fresh.refl _ _⟩, hb⟩
set_option maxRecDepth 100000 in
set_option maxHeartbeats 2000000 in
theorem reserve_any (h : Ft w own gt s) {t n : Int} (ht : i64 t) : Calls Try.prog 20 #[ptr gt, .int .i64 t, .int .i64 n] w fun e w' => e = .returned (.int .i64 (s.resc t n)) ∧ FtTo w own gt (s.res t n) w' := by
  have hsm := h.same (But.refl _ w)
  obtain ⟨gr, gf, gp, gh, gm, fb, PL, h⟩ := h
  have HL := Hid.mk' (h.shareLook ht)
  have hsp := share_pos (fun p hp => (h.ok.sk p hp).2) t
  have hheld : s.held t = decide (0 < share s.sh t) := hsp.symm
  have c1 : w.cell? ⟨gt, 1, none⟩ = some (.int .i64 s.left) := h.blk.cell 1
  have c2 : w.cell? ⟨gt, 2, none⟩ = some (.map (some gr)) := h.blk.cell 2
  have hrc : s.resc t n = if n < 1 then 1 else if 0 < share s.sh t then 6 else if s.left < n then 12 else 0 := by
    unfold St.resc
    rw [hheld]
    simp only [decide_eq_true_eq]
  by_cases h1 : n < 1
  · rw [if_pos h1] at hrc
    have HS : Hid (FtTo w own gt (s.res t n) w) := by unfold St.res; rw [hrc]; exact hsm
    rw [hrc]
    clear h hsm hsp hheld hrc ht c1 c2 HL
    go_enter Try.func20, Try.ntmps20
    go_wp2
    go_ret
    exact ⟨rfl, HS.out⟩
  rw [if_neg h1] at hrc
  by_cases h2 : 0 < share s.sh t
  · rw [if_pos h2] at hrc
    have HS : Hid (FtTo w own gt (s.res t n) w) := by unfold St.res; rw [hrc]; exact hsm
    rw [hrc]
    generalize share s.sh t = q at *
    clear h hsm hsp hheld hrc ht c1
    go_enter Try.func20, Try.ntmps20
    go_wp2_with (first
      | (refine wpList_runH rfl (exec_lookup rfl rfl rfl HL.out) ?_)
      | fail)
    go_ret
    exact ⟨rfl, HS.out⟩
  rw [if_neg h2] at hrc
  by_cases h3 : s.left < n
  · rw [if_pos h3] at hrc
    have HS : Hid (FtTo w own gt (s.res t n) w) := by unfold St.res; rw [hrc]; exact hsm
    rw [hrc]
    generalize share s.sh t = q at *
    generalize s.left = L at *
    clear h hsm hsp hheld hrc ht
    go_enter Try.func20, Try.ntmps20
    go_wp2_with (first
      | (refine wpList_runH rfl (exec_lookup rfl rfl rfl HL.out) ?_)
      | fail)
    go_ret
    exact ⟨rfl, HS.out⟩
  rw [if_neg h3] at hrc
  have hok : Sok { s with sh := s.sh ++ [(t, n)] } := by
    have := h.ok.res (n := n) ht
    unfold St.res at this
    rw [if_pos hrc] at this
    exact this
  have hno : ∀ p ∈ s.sh, p.1 ≠ t := fun p hp e => by
    have : s.held t = true := by unfold St.held; rw [List.any_eq_true]; exact ⟨p, hp, by simpa using e⟩
    rw [hheld] at this
    exact h2 (by simpa using this)
  obtain ⟨w1, hr1, hm1, hb1, -⟩ := h.res.put (t := 81) (et := 3) keyIa Try.underlying81 (t, n) (keyOfIa t ht) (fun p hp e => hno p hp (iv_inj e))
  have hgtr : ¬ gt = gr := fun e => by have := h.ot; rw [e, h.ort] at this; cases this
  have hbk1 := h.blk.but hb1 hgtr
  have HPUT := Hid.mk' hr1
  have d1 : w1.cell? ⟨gt, 1, none⟩ = some (.int .i64 s.left) := hbk1.cell 1
  have f1 : w1.frozen? ⟨gt, 1, none⟩ = false := hbk1.free 1
  have hl0 := h.ok.left0
  have hm2 := h.ok.m2
  have hL1 : s.left ≤ 1024 := by omega
  have hL0 : 0 ≤ s.left := hl0.1
  have HFIN : Hid (FtTo w own gt (s.res t n) (w1.setCell ⟨gt, 1, none⟩ (.int .i64 (s.left - n)))) := by
    have e1 : s.res t n = { s with sh := s.sh ++ [(t, n)] } := by unfold St.res; rw [if_pos hrc]
    have hlf : ({ s with sh := s.sh ++ [(t, n)] } : St).left = s.left - n := by
      show (s.most : Int) - sums (s.sh ++ [(t, n)]) = (s.most : Int) - sums s.sh - n
      rw [sums_append, sums_cons, sums_nil]; omega
    have hk := But.set1 w1 gt 1 (.int .i64 (s.left - n))
    rw [e1]
    refine Ft.one (h.shrd (w' := w1.setCell ⟨gt, 1, none⟩ (.int .i64 (s.left - n))) ((hb1.mono (fun _ _ e => .inl e)).trans (hk.mono (fun _ _ e => .inr e))) hok ?_ (hm1.but hk (fun e => hgtr e.symm))) ?_
    · rw [hlf]
      exact hbk1.set 1 (.int .i64 (s.left - n))
    · refine (hb1.mono (fun b _ e => ?_)).trans (hk.mono (fun b _ e => ?_))
      · rw [e, Wr, h.ort]; exact ⟨by decide, by decide⟩
      · rw [e, Wr, h.ot]; exact ⟨by decide, by decide⟩
  rw [hrc]
  generalize share s.sh t = q at *
  generalize s.left = L at *
  clear h hsm hsp hheld hrc ht hok hno hr1 hm1 hb1 hgtr hbk1 hl0 hm2
  go_enter Try.func20, Try.ntmps20
  go_wp2_with (first
    | (refine wpList_runH rfl (exec_lookup rfl rfl rfl HL.out) ?_)
    | (refine wpList_skipH rfl (exec_mapUpdate rfl rfl rfl rfl HPUT.out) ?_)
    | fail)
  go_ret
  exact ⟨rfl, HFIN.out⟩
/-- Warm. -/
theorem Fm.warmed (h : Fm w own gt gr gf gp gh gm fb PL s) {K : Int} {y : Nat} (k : HtTo w gh gm 16 (s.now + 1) (ttouch 16 s.now (look s.hl) K y) w') : FtTo w own gt (s.touch K y) w' := by
  rw [← look_touched] at k
  refine Ft.one (h.heatd k) (k.but.mono (fun b _ e => ?_))
  rcases e with e | e
  · rw [e, Wr, h.ogh]; exact ⟨by decide, by decide⟩
  · rw [e, Wr, h.ogm]; exact ⟨by decide, by decide⟩
set_option maxRecDepth 100000 in
theorem warm_any (h : Ft w own gt s) {K : Int} (hK : i64 K) {y : Nat} (hn : s.now < 1000000) : Calls Try.prog 25 #[ptr gt, .int .i64 K, .float .f64 y] w fun e w' => e = .returned (.tuple #[]) ∧ FtTo w own gt (s.warm K y) w' := by
  have hsm := h.same (But.refl _ w)
  obtain ⟨gr, gf, gp, gh, gm, fb, PL, h⟩ := h
  cases hh : s.has K with
  | false =>
    have HF := Hid.mk' (find_not h hK hh)
    have HS : Hid (FtTo w own gt (s.warm K y) w) := by unfold St.warm; rw [hh]; exact hsm
    clear h hK hh hsm hn
    go_enter Try.func25, Try.ntmps25
    go_wp2_with fail
    refine Calls.mono HF.out ?_
    rintro e w' ⟨rfl, rfl⟩
    go_wp2
    go_end0
    exact ⟨rfl, HS.out⟩
  | true =>
    have HF := Hid.mk' (find_has h hK hh)
    have HT := Hid.mk' (touch_any h.ht hK (y := y) hn)
    have HS : Hid (∀ w', HtTo w gh gm 16 (s.now + 1) (ttouch 16 s.now (look s.hl) K y) w' → FtTo w own gt (s.warm K y) w') := fun w' k => by unfold St.warm; rw [hh]; exact h.warmed k
    have c5 : w.cell? ⟨gt, 5, none⟩ = some (ptr gh) := h.blk.cell 5
    generalize fb K = g at *
    clear h hK hh hsm hn
    go_enter Try.func25, Try.ntmps25
    go_wp2_with fail
    refine Calls.mono HF.out ?_
    rintro e w' ⟨rfl, hw⟩
    have h2 := hw.symm
    subst h2
    clear hw
    go_wp2_with fail
    refine Calls.mono HT.out ?_
    rintro e w2 ⟨rfl, ht⟩
    have HW := Hid.mk' (HS.out w2 ht)
    clear ht
    go_wp2
    go_end0
    exact ⟨rfl, HW.out⟩
/-- Get. -/
theorem get_not (h : Ft w own gt s) {K : Int} (hK : i64 K) (hh : s.has K = false) : Calls Try.prog 18 #[ptr gt, .int .i64 K] w fun e w' => e = .returned (.tuple #[.slice none 0 0, .int .i64 5]) ∧ w' = w := by
  obtain ⟨gr, gf, gp, gh, gm, fb, PL, h⟩ := h
  have HF := Hid.mk' (find_not h hK hh)
  clear h hK hh
  go_enter Try.func18, Try.ntmps18
  go_wp2_with fail
  refine Calls.mono HF.out ?_
  rintro e w' ⟨rfl, rfl⟩
  go_wp2
  exact bodyPost_ret (results_tmp2 rfl _ _ _) rfl ⟨rfl, rfl⟩
def oneF : Nat := 4607182418800017408
set_option maxRecDepth 100000 in
theorem get_has (h : Ft w own gt s) {K : Int} (hK : i64 K) (hh : s.has K = true) (hn : s.now < 1000000) : Calls Try.prog 18 #[ptr gt, .int .i64 K] w fun e w' => ∃ v w1, e = .returned (.tuple #[v, .int .i64 0]) ∧ FtTo w own gt (s.touch K oneF) w1 ∧ Ow w' w1.heap.size v (s.bytes K) ∧ Below w1.heap.size w1 w' := by
  obtain ⟨gr, gf, gp, gh, gm, fb, PL, h⟩ := h
  have HF := Hid.mk' (find_has h hK hh)
  have HT := Hid.mk' (touch_any h.ht hK (y := 4607182418800017408) hn)
  have HS : Hid (∀ w', HtTo w gh gm 16 (s.now + 1) (ttouch 16 s.now (look s.hl) K 4607182418800017408) w' → FtTo w own gt (s.touch K oneF) w') := fun w' k => h.warmed k
  have c5 : w.cell? ⟨gt, 5, none⟩ = some (ptr gh) := h.blk.cell 5
  obtain ⟨e0, he0, rfl⟩ := St.has_iff.1 hh
  obtain ⟨v, hb, hv⟩ := h.each e0 he0
  have ngh : ∀ b t, own b = t → t ≠ .imr → t ≠ .pic → ¬ (b = gh ∨ b = gm) := fun b t e h1 h2 e2 => by
    rcases e2 with e2 | e2
    · rw [e2, h.ogh] at e; exact h1 e.symm
    · rw [e2, h.ogm] at e; exact h2 e.symm
  have HB : Hid (∀ w2, But (fun b => b = gh ∨ b = gm) w w2 → Blk w2 (fb e0.1) 89 (fcl v e0.2.2 (cnt PL e0.1)) ∧ Bs w2 v (s.bytes e0.1)) := fun w2 k =>
    ⟨hb.but k (ngh _ _ (h.ofb e0 he0) (fun e => nomatch e) (fun e => nomatch e)), by rw [(St.at_mark h.ok he0).2]; exact (hv.but k (fun j hj => ngh _ _ hj (fun e => nomatch e) (fun e => nomatch e))).1⟩
  have HLN : Hid ((s.bytes e0.1).length ≤ 140737488355328) := by show _ ≤ _; rw [(St.at_mark h.ok he0).2]; have := (h.ok.ik e0 he0).2; omega
  generalize s.bytes e0.1 = B at *
  generalize e0.1 = K at *
  generalize fb K = g at *
  generalize cnt PL K = m at *
  generalize e0.2.2 = q at *
  clear h hK hh hn hb hv ngh
  go_enter Try.func18, Try.ntmps18
  go_wp2_with fail
  refine Calls.mono HF.out ?_
  rintro e w' ⟨rfl, hw⟩
  have h2 := hw.symm
  subst h2
  clear hw
  go_wp2_with fail
  refine Calls.mono HT.out ?_
  rintro e w2 ⟨rfl, ht⟩
  have HW := Hid.mk' (HS.out w2 ht)
  obtain ⟨hb2, hv2⟩ := HB.out w2 ht.but
  have HCL := Hid.mk' (clone_any hv2 HLN.out)
  have d0 : w2.cell? ⟨g, 0, none⟩ = some v := hb2.cell 0
  obtain ⟨ao, nn, cap, rfl⟩ := hv2.sl
  clear ht hb2 hv2
  go_wp2_with fail
  refine Calls.mono HCL.out ?_
  rintro e w3 ⟨v3, rfl, how, hbe⟩
  have HO := Hid.mk' how
  have HBE := Hid.mk' hbe
  obtain ⟨ao3, n3, cap3, rfl⟩ := how.bs.sl
  clear how hbe
  go_wp2
  exact bodyPost_ret (results_tmp2 rfl _ _ _) rfl ⟨_, w2, rfl, HW.out, HO.out, HBE.out⟩
/-- Drop. -/
theorem Fm.del (h : Fm w own gt gr gf gp gh gm fb PL s) {K : Int} (hc : s.dropc K = 0) (k : But (· = gf) w w') (hm : MapOf 3 w' gf iv (fun k => ptr (fb k)) ((s.fr.filter (fun e => !(e.1 == K))).map (·.1))) : Fm w' own gt gr gf gp gh gm fb PL { s with fr := s.fr.filter (fun e => !(e.1 == K)) } := by
  have ne : ∀ b t, own b = t → t ≠ .map → ¬ (b = gf) := fun b t e h1 e2 => by rw [e2, h.ogf] at e; exact h1 e.symm
  have hok := h.ok.drop K
  unfold St.drop at hok
  rw [if_pos hc] at hok
  exact ⟨h.blk.but k (ne _ _ h.ot (by decide)), h.res.but k (ne _ _ h.ort (by decide)), hm, h.pin.but k (ne _ _ h.ogp (by decide)), h.pnd, h.pmem,
    fun e he => by
      obtain ⟨v, h1, h2⟩ := h.each e (List.mem_filter.1 he).1
      exact ⟨v, h1.but k (ne _ _ (h.ofb e (List.mem_filter.1 he).1) (fun e => nomatch e)), h2.but k (fun j hj => ne _ _ hj (fun e => nomatch e))⟩,
    h.ht.but k (ne _ _ h.ogh (by decide)) (ne _ _ h.ogm (by decide)), h.ot, h.ort, h.ogf, h.ogp, h.ogh, h.ogm, fun e he => h.ofb e (List.mem_filter.1 he).1, ⟨hok.m1, hok.m2, hok.nd, hok.le, hok.ik, hok.pk, hok.tn, hok.sk, hok.sl⟩, h.pl, h.top.grow k.size⟩
set_option maxRecDepth 100000 in
theorem fdrop_any (h : Ft w own gt s) {K : Int} (hK : i64 K) : Calls Try.prog 15 #[ptr gt, .int .i64 K] w fun e w' => e = .returned (.int .i64 (s.dropc K)) ∧ FtTo w own gt (s.drop K) w' := by
  have hsm := h.same (But.refl _ w)
  obtain ⟨gr, gf, gp, gh, gm, fb, PL, h⟩ := h
  cases hh : s.has K with
  | false =>
    have HF := Hid.mk' (find_not h hK hh)
    have hc : s.dropc K = 5 := by unfold St.dropc; rw [hh]; rfl
    have HS : Hid (FtTo w own gt (s.drop K) w) := by unfold St.drop; rw [hc]; exact hsm
    rw [hc]
    clear h hK hh hsm hc
    go_enter Try.func15, Try.ntmps15
    go_wp2_with fail
    refine Calls.mono HF.out ?_
    rintro e w' ⟨rfl, rfl⟩
    go_wp2
    go_ret
    exact ⟨rfl, HS.out⟩
  | true =>
    have HF := Hid.mk' (find_has h hK hh)
    obtain ⟨e0, he0, hek⟩ := St.has_iff.1 hh
    obtain ⟨v, hb, hv⟩ := h.each e0 he0
    rw [hek] at hb
    obtain ⟨N, hN⟩ : ∃ N : Int, N = (cnt PL K : Int) := ⟨_, rfl⟩
    have c1 : w.cell? ⟨fb K, 2, none⟩ = some (.int .i64 N) := by rw [hN]; exact hb.cell 2
    have hp := h.pinned K
    cases hpn : s.pinned K with
    | true =>
      have hc : s.dropc K = 6 := by unfold St.dropc; rw [hh, hpn]; rfl
      have HS : Hid (FtTo w own gt (s.drop K) w) := by unfold St.drop; rw [hc]; exact hsm
      rw [hpn] at hp
      have hN0 : 0 < N := by rw [hN]; have := of_decide_eq_true hp; omega
      rw [hc]
      generalize fb K = g at *
      clear h hK hh hsm hc hp hpn hb hv hek he0 hN
      go_enter Try.func15, Try.ntmps15
      go_wp2_with fail
      refine Calls.mono HF.out ?_
      rintro e w' ⟨rfl, hw⟩
      have h2 := hw.symm
      subst h2
      clear hw
      go_wp2
      go_ret
      exact ⟨rfl, HS.out⟩
    | false =>
      have hc : s.dropc K = 0 := by unfold St.dropc; rw [hh, hpn]; rfl
      rw [hpn] at hp
      have hN0 : ¬ 0 < N := by rw [hN]; have := of_decide_eq_false hp; omega
      obtain ⟨w1, hd1, hm1, hb1, -⟩ := h.frm.del (l' := (s.fr.filter (fun e => !(e.1 == K))).map (·.1)) (t := 82) (et := 86) keyIa Try.underlying82 (keyOfIa K hK) (fun x => by
        unfold St.keys
        constructor
        · intro hx
          obtain ⟨e, he, rfl⟩ := List.mem_map.1 hx
          obtain ⟨h1, h2⟩ := List.mem_filter.1 he
          exact ⟨List.mem_map.2 ⟨e, h1, rfl⟩, fun e2 => by rw [iv_inj e2] at h2; simp at h2⟩
        · rintro ⟨hx, hne⟩
          obtain ⟨e, he, rfl⟩ := List.mem_map.1 hx
          exact List.mem_map.2 ⟨e, List.mem_filter.2 ⟨he, by
            have : e.1 ≠ K := fun e2 => hne (by rw [e2])
            simpa using this⟩, rfl⟩) 0
      have h1 := h.del hc hb1 hm1
      have HD := Hid.mk' hd1
      have HHD := Hid.mk' (drop_any h1.ht hK)
      have c3 : w.cell? ⟨gt, 3, none⟩ = some (.map (some gf)) := h.blk.cell 3
      have c5 : w1.cell? ⟨gt, 5, none⟩ = some (ptr gh) := h1.blk.cell 5
      have HS : Hid (∀ w2, HtTo w1 gh gm 16 s.now (tdrop (look s.hl) K) w2 → FtTo w own gt (s.drop K) w2) := fun w2 k => by
        rw [← look_dropped] at k
        have e1 : s.drop K = { ({ s with fr := s.fr.filter (fun e => !(e.1 == K)) } : St) with now := s.now, hl := s.hl.filter (fun e => !(e.1 == K)) } := by unfold St.drop; rw [if_pos hc]
        rw [e1]
        refine Ft.one (h1.heatd k) ((hb1.mono (fun b _ e => ?_)).trans (k.but.mono (fun b _ e => ?_)))
        · rw [e, Wr, h.ogf]; exact ⟨by decide, by decide⟩
        · rcases e with e | e
          · rw [e, Wr, h.ogh]; exact ⟨by decide, by decide⟩
          · rw [e, Wr, h.ogm]; exact ⟨by decide, by decide⟩
      rw [hc]
      generalize fb K = g at *
      clear h hK hh hsm hc hp hpn hb hv hek he0 hN hd1 hm1 hb1 h1
      go_enter Try.func15, Try.ntmps15
      go_wp2_with fail
      refine Calls.mono HF.out ?_
      rintro e w' ⟨rfl, hw⟩
      have h2 := hw.symm
      subst h2
      clear hw
      go_wp2_with (first
        | (refine wpList_runH rfl (exec_deleteH rfl rfl rfl HD.out) ?_)
        | fail)
      refine Calls.mono HHD.out ?_
      rintro e w2 ⟨rfl, ht⟩
      have HW := Hid.mk' (HS.out w2 ht)
      clear ht
      go_wp2
      go_ret
      exact ⟨rfl, HW.out⟩
end
end Go.Proofs.Ytmlklmhochihbaa
