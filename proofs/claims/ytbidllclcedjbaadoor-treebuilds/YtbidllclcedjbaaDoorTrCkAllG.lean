/- tree: Check, all its answers. -/
import Derived.Test.YtbidllclcedjbaaDoorAllF
namespace Go.Proofs.YtbidllclcedjbaaDoor
open Go.RowKit

theorem Ps.elems {w : World} {v : Value} {xss : List (List Nat)} (h : Ps w v xss) : ∀ x ∈ xss, ∀ z ∈ x, z < 256 := fun x hx => by
  obtain ⟨i, hi, rfl⟩ := List.mem_iff_getElem.1 hx
  obtain ⟨ao, cap, -, hh⟩ := h.gen
  obtain ⟨b, off, -, -, hc⟩ := hh (by omega)
  obtain ⟨u, -, hb⟩ := hc i hi
  have e : xss.getD i [] = xss[i] := by simp [List.getD, hi]
  rw [e] at hb
  exact hb.1
/-- Does it fit a page's path? -/
def Fits (p : Pn) (x : Int) (path : List Bk) : Prop := p.has x = true ∧ path.length = (p.path x).length ∧ whl path = true
/-- What Check answers. -/
def CkIs (p : Pn) (x : Int) (path : List Bk) (root : List Nat) (r : Int) : Prop :=
  (p.has x = false ∧ r = 1) ∨ (p.has x = true ∧ (path.length ≠ (p.path x).length ∨ whl path = false) ∧ r = 3) ∨ (Fits p x path ∧ Good p (p.path x) path root ∧ r = 0) ∨ (Fits p x path ∧ ¬ Good p (p.path x) path root ∧ r = 10)
theorem CkIs.uniq {p : Pn} {x : Int} {path : List Bk} {root : List Nat} {r s : Int} (h : CkIs p x path root r) (k : CkIs p x path root s) : r = s := by
  unfold CkIs Fits at h k
  rcases h with ⟨a1, a2⟩ | ⟨a1, a2, a3⟩ | ⟨⟨a1, a2, a3⟩, a4, a5⟩ | ⟨⟨a1, a2, a3⟩, a4, a5⟩ <;> rcases k with ⟨b1, b2⟩ | ⟨b1, b2, b3⟩ | ⟨⟨b1, b2, b3⟩, b4, b5⟩ | ⟨⟨b1, b2, b3⟩, b4, b5⟩ <;> first
    | omega
    | exact absurd (a1.symm.trans b1) (by decide)
    | exact (a2.elim (fun q => absurd b2 q) (fun q => absurd (q.symm.trans b3) (by decide)))
    | exact (b2.elim (fun q => absurd a2 q) (fun q => absurd (q.symm.trans a3) (by decide)))
    | exact absurd a4 b4
    | exact absurd b4 a4
theorem CkIs.small {p : Pn} {x : Int} {path : List Bk} {root : List Nat} {r : Int} (h : CkIs p x path root r) : 0 ≤ r ∧ r ≤ 10 := by
  rcases h with ⟨_, rfl⟩ | ⟨_, _, rfl⟩ | ⟨_, _, rfl⟩ | ⟨_, _, rfl⟩ <;> decide
theorem CkIs.ok {p : Pn} {x : Int} {path : List Bk} {root : List Nat} (h : CkIs p x path root 0) : Fits p x path ∧ Good p (p.path x) path root := by
  rcases h with ⟨_, h⟩ | ⟨_, _, h⟩ | ⟨a, b, _⟩ | ⟨_, _, h⟩
  · exact absurd h (by decide)
  · exact absurd h (by decide)
  · exact ⟨a, b⟩
  · exact absurd h (by decide)
/-- What it notes. -/
def noteC (p : Pn) (x : Int) (path : List Bk) (r : Int) : List Pr := if r = 0 then noteB (p.path x) path path.length else []
theorem chk_all {w : World} {own : Owner} {lv v pv : Value} {P : List Pr} {p : Pn} {x : Int} {root : List Nat} {path : List Bk} (hlg : LgO w own lv P) (hm : Mad p) (hv : Nums w pv p.levels)
    (hst : ∀ w', But (fun b => own b ≠ .none) w w' → Kw w' ∧ Hw w' ∧ Ps w' v path) (hcap : ∀ ao n c, v = .slice ao n c → n ≤ c) (hl : path.length ≤ 1000000) (hr : wf32 root) (hP : P.length ≤ 90000) :
    Calls Tryd.prog 26 #[lv, pval p pv, .int .i64 x, v, dkey root] w fun e w' => ∃ r, e = .returned (.int .i64 r) ∧ CkIs p x path root r ∧ LgOTo w own lv (P ++ noteC p x path r) w' := by
  have hps := (hst w (But.refl _ _)).2.2
  cases hx : p.has x with
  | false =>
    refine (chk_no hx).mono ?_
    rintro e w' ⟨rfl, hg⟩
    refine ⟨1, rfl, .inl ⟨hx, rfl⟩, ?_⟩
    rw [noteC, if_neg (by decide), List.append_nil]
    exact LgOTo.from hg (LgOTo.refl (hlg.grow hg))
  | true =>
    by_cases hn : path.length = (p.path x).length
    · cases hw : whl path with
      | false =>
        refine (chk_form hm hv hx hps (.inr hw) hl).mono ?_
        rintro e w' ⟨rfl, hg⟩
        refine ⟨3, rfl, .inr (.inl ⟨hx, .inr hw, rfl⟩), ?_⟩
        rw [noteC, if_neg (by decide), List.append_nil]
        exact LgOTo.from hg (LgOTo.refl (hlg.grow hg))
      | true =>
        refine (chk_any hlg hm hv hx hst hcap hn hw hps.elems hr hP).mono ?_
        rintro e w' (⟨hg, rfl, hl⟩ | ⟨hg, rfl, hl⟩)
        · refine ⟨0, rfl, .inr (.inr (.inl ⟨⟨hx, hn, hw⟩, hg, rfl⟩)), ?_⟩
          rw [noteC, if_pos rfl]
          exact hl
        · refine ⟨10, rfl, .inr (.inr (.inr ⟨⟨hx, hn, hw⟩, hg, rfl⟩)), ?_⟩
          rw [noteC, if_neg (by decide), List.append_nil]
          exact LgOTo.from hl (LgOTo.refl (hlg.grow hl))
    · refine (chk_form hm hv hx hps (.inl hn) hl).mono ?_
      rintro e w' ⟨rfl, hg⟩
      refine ⟨3, rfl, .inr (.inl ⟨hx, .inl hn, rfl⟩), ?_⟩
      rw [noteC, if_neg (by decide), List.append_nil]
      exact LgOTo.from hg (LgOTo.refl (hlg.grow hg))
theorem noteB_get {bl : List Int} {path : List Bk} : ∀ {n k : Nat}, k < n → (noteB bl path n)[k]? = some (inp (bl.getD k 0) (path.getD k []), bd (bl.getD k 0) (path.getD k []))
  | n + 1, k, h => by
    unfold noteB
    by_cases hk : k < n
    · rw [List.getElem?_append_left (by rw [noteB_len]; exact hk)]; exact noteB_get hk
    · have e : k = n := by omega
      subst e
      rw [List.getElem?_append_right (by rw [noteB_len]; exact Nat.le_refl _), noteB_len]
      simp
theorem Hq.noteB {bl : List Int} {path : List Bk} (h : ∀ x ∈ path, x.length ≤ 300) : ∀ n, Hq (noteB bl path n)
  | 0 => fun q hq => absurd hq List.not_mem_nil
  | n + 1 => by
    unfold Go.Proofs.YtbidllclcedjbaaDoor.noteB
    refine (Hq.noteB h n).app (fun q hq => ?_)
    rw [List.mem_singleton.1 hq]
    refine ⟨rfl, ?_⟩
    show (inp _ _).length ≤ 1000
    rw [inp_len]
    by_cases hn : n < path.length
    · have := h (path.getD n []) (by simp [List.getD, hn])
      omega
    · have : path.getD n [] = [] := by simp [List.getD, show ¬ n < path.length from hn]
      rw [this]; simp
theorem Hq.noteC {p : Pn} {x : Int} {path : List Bk} {root : List Nat} {r : Int} (h : CkIs p x path root r) : Hq (noteC p x path r) ∧ (noteC p x path r).length ≤ path.length := by
  unfold Go.Proofs.YtbidllclcedjbaaDoor.noteC
  by_cases hr : r = 0
  · subst hr
    rw [if_pos rfl]
    exact ⟨Hq.noteB (fun y hy => by have := whl_true h.ok.1.2.2 y hy; omega) _, by rw [noteB_len]; exact Nat.le_refl _⟩
  · rw [if_neg hr]
    exact ⟨fun q hq => absurd hq List.not_mem_nil, Nat.zero_le _⟩
theorem eq_of_getD2 {xss yss : List (List Nat)} (hl : xss.length = yss.length) (h : ∀ i, i < xss.length → xss.getD i [] = yss.getD i []) : xss = yss := by
  apply List.ext_getElem hl
  intro i h1 h2
  have := h i h1
  simpa [List.getD, h1, h2] using this
set_option maxRecDepth 100000 in
set_option maxHeartbeats 4000000 in
theorem sameall_any {w : World} {v u : Value} {xss yss : List (List Nat)} (hv : Ps w v xss) (hu : Ps w u yss) (hl : xss.length ≤ 1000000) (hl2 : yss.length ≤ 1000000) :
    Calls Tryd.prog 23 #[v, u] w fun e w' => e = .returned (.bool (decide (xss = yss))) ∧ Grow w w' := by
  obtain ⟨va, vc, rfl, hvc⟩ := hv.gen
  obtain ⟨ua, uc, rfl, huc⟩ := hu.gen
  obtain ⟨r, hr⟩ : ∃ r, r = decide (xss = yss) := ⟨_, rfl⟩
  have HR := Hid.mk' hr
  rw [← hr]
  obtain ⟨n, hn⟩ : ∃ n, n = xss.length := ⟨_, rfl⟩
  obtain ⟨m, hm⟩ : ∃ m, m = yss.length := ⟨_, rfl⟩
  rw [← hn] at hvc hl ⊢
  rw [← hm] at huc hl2 ⊢
  have HN := Hid.mk' hn
  have HM := Hid.mk' hm
  have HV := Hid.mk' hvc
  have HU := Hid.mk' huc
  clear hv hu hvc huc hr hn hm
  by_cases hnm : n = m
  · subst hnm
    have hne : ((n : Int) != (n : Int)) = false := by simp
    go_enter Tryd.func23, Tryd.ntmps23
    go_upto_region 4 with fail
    go_loopw [5] (fun iv wr => ∃ k : Nat, k ≤ n ∧ iv = .int .i64 k ∧ Grow w wr ∧ ∀ i, i < k → xss.getD i [] = yss.getD i []) (fun iv _ => n - (intOf iv).toNat)
    case atStart => exact ⟨0, Nat.zero_le _, rfl, But.refl _ _, fun i hi => absurd hi (Nat.not_lt_zero _)⟩
    case round =>
      obtain ⟨k, hk, rfl, hgr, hall⟩ := hrel
      have HGR := Hid.mk' hgr
      have HA := Hid.mk' hall
      by_cases hlt : k < n
      · obtain ⟨vb, vo, rfl, hvb, hvcc⟩ := HV.out (by omega)
        obtain ⟨ub, uo, rfl, hub, hucc⟩ := HU.out (by omega)
        obtain ⟨x, hx, hbx⟩ := hvcc k hlt
        obtain ⟨y, hy, hby⟩ := hucc k hlt
        have HCX : Hid (∀ w', Grow wr w' → w'.cell? ⟨vb, vo + k, none⟩ = some x) := fun w' kk => grow_cell kk (grow_cell hgr hx)
        have HCY : Hid (∀ w', Grow wr w' → w'.cell? ⟨ub, uo + k, none⟩ = some y) := fun w' kk => grow_cell kk (grow_cell hgr hy)
        obtain ⟨q, hq⟩ : ∃ q, q = decide (xss.getD k [] = yss.getD k []) := ⟨_, rfl⟩
        have HS : Hid (∀ w', Grow wr w' → Calls Tryd.prog 31 #[x, y] w' fun e w'' => e = .returned (.bool q) ∧ Grow w' w'') := fun w' kk => by
          rw [hq]; exact same_grow (hbx.but (hgr.trans kk) (fun _ _ _ h => h)) (hby.but (hgr.trans kk) (fun _ _ _ h => h))
        have HQ := Hid.mk' hq
        obtain ⟨xa, xn, xc, rfl⟩ := hbx.sl
        obtain ⟨ya, yn, yc, rfl⟩ := hby.sl
        clear hvcc hucc hx hy hbx hby hq hall hgr
        go_upto_region 6 with fail
        refine region_chain [] [0, 1, 2, 3, 4, 5, 6, 7, 8, 9] (Grow wr) (Grow wr) (by kernel_rfl) (by kernel_rfl) (fun _ _ h k => h.trans k) (fun _ h => h) ((But.refl _ wr).drew) ?_
        intro ι hne X hX
        have c1 : ∀ z, (X z).cell? ⟨vb, vo + k, none⟩ = some (.slice xa xn xc) := fun z => HCX.out (X z) (hX z)
        have c2 : ∀ z, (X z).cell? ⟨ub, uo + k, none⟩ = some (.slice ya yn yc) := fun z => HCY.out (X z) (hX z)
        iterate 8 (refine still_step rfl (fun K hK => ?_); go_simp; refine hK _ ?_; clear hK K)
        refine still_call rfl (.bool q) 31 #[.slice xa xn xc, .slice ya yn yc] rfl (fun _ => by kernel_rfl) (fun z => HS.out (X z) (hX z)) ?_
        intro K hK; go_simp; refine hK _ ?_; clear hK K
        refine still_step rfl (fun K hK => ?_); go_simp; refine hK _ ?_; clear hK K
        refine still_nil ?_
        clear hX hne c1 c2
        intro w8 hw8
        have HG8 := Hid.mk' (HGR.out.trans hw8)
        clear hw8
        cases hq9 : q with
        | true =>
          have HE : Hid (xss.getD k [] = yss.getD k []) := by
            have := HQ.out
            rw [hq9] at this
            show _ = _
            exact of_decide_eq_true this.symm
          clear HQ HS hq9
          go_wp2
          refine ⟨⟨k + 1, by omega, by go_num, HG8.out, fun i hi => ?_⟩, by simp [intOf]; omega⟩
          by_cases hik : i = k
          · rw [hik]; exact HE.out
          · exact HA.out i (by omega)
        | false =>
          have hrf : r = false := by
            rw [HR.out]
            refine decide_eq_false (fun e => ?_)
            have := HQ.out
            rw [hq9] at this
            exact of_decide_eq_false this.symm (by rw [e])
          subst hrf
          clear HQ HS hq9
          go_wp2
          go_ret
          exact ⟨rfl, HG8.out⟩
      · have hkn : k = n := by omega
        subst hkn
        have hrt : r = true := by
          rw [HR.out]
          exact decide_eq_true (eq_of_getD2 (by rw [← HN.out, ← HM.out]) (fun i hi => hall i (by rw [HN.out]; exact hi)))
        subst hrt
        clear hall
        go_wp2
        go_ret
        exact ⟨rfl, hgr⟩
  · have hne : ((n : Int) != (m : Int)) = true := by
      have : (n : Int) ≠ (m : Int) := by omega
      simpa using this
    have hrf : r = false := by
      rw [HR.out]
      exact decide_eq_false (fun e => hnm (by rw [HN.out, HM.out, e]))
    subst hrf
    go_enter Tryd.func23, Tryd.ntmps23
    go_wp2
    go_ret
    exact ⟨rfl, But.refl _ _⟩
end Go.Proofs.YtbidllclcedjbaaDoor
