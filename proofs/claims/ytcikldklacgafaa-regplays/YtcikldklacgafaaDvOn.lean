/- On: the power comes back. -/
import Derived.Test.YtcikldklacgafaaDvWaiting
namespace Go.Proofs.Ytcikldklacgafaa
open Go.RowKit

/-- A slice that holds these numbers (whoever's it is). -/
def IntS (w : World) (v : Value) (fs : List Int) : Prop := (∀ x ∈ fs, -9223372036854775808 ≤ x ∧ x ≤ 9223372036854775807) ∧ fs.length ≤ 140737488355328 ∧ ((fs = [] ∧ ∃ ao cap, v = .slice ao 0 cap) ∨ (0 < fs.length ∧ ∃ b off cap, v = .slice (some ⟨b, off, none⟩) fs.length cap ∧ b < w.heap.size ∧ ∀ i, i < fs.length → w.cell? ⟨b, off + i, none⟩ = some (.int .i64 (fs.getD i 0))))
/-- Its memory lies in F. -/
def IntF (w : World) (F : Nat → Prop) (v : Value) (fs : List Int) : Prop := IntS w v fs ∧ (0 < fs.length → ∀ j, v.ownBlock = some j → F j)
theorem IntF.but {F R : Nat → Prop} {w w' : World} {v : Value} {fs : List Int} (h : IntF w F v fs) (k : But R w w') (hr : ∀ j, F j → ¬ R j) : IntF w' F v fs := by
  obtain ⟨⟨h1, h2, h3 | ⟨h0, b, off, cap, e, hb, hc⟩⟩, hf⟩ := h
  · exact ⟨⟨h1, h2, .inl h3⟩, hf⟩
  · refine ⟨⟨h1, h2, .inr ⟨h0, b, off, cap, e, Nat.lt_of_lt_of_le hb k.size, fun i hi => ?_⟩⟩, hf⟩
    exact (World.cell?_of_block (k.block b hb (hr b (hf h0 b (by rw [e]; rfl))))).trans (hc i hi)
/-- How many bytes of the i-th write that waited are stored. -/
def spare (fs : List Int) (i : Nat) : Nat := if fs.length = 0 then 0 else ((fs.getD (i % fs.length) 0) % 257).toNat
theorem spare_le (fs : List Int) (i : Nat) : spare fs i ≤ 256 := by
  unfold spare
  split
  · omega
  · have h1 := Int.emod_nonneg (fs.getD (i % fs.length) 0) (b := 257) (by decide)
    have h2 := Int.emod_lt_of_pos (fs.getD (i % fs.length) 0) (b := 257) (by decide)
    omega
theorem spared_any {w : World} {v : Value} {fs : List Int} (h : IntS w v fs) (i : Nat) :
    Calls Try.prog 29 #[v, .int .i64 (i : Int)] w fun e w' => e = .returned (.int .i64 (spare fs i : Int)) ∧ w' = w := by
  obtain ⟨h1, h2, ⟨rfl, ao, cap, rfl⟩ | ⟨h0, b, off, cap, rfl, hb, hc⟩⟩ := h
  · have : spare [] i = 0 := rfl
    rw [this]
    go_enter Try.func29, Try.ntmps29
    go_wp2
    go_ret
    exact ⟨rfl, rfl⟩
  · obtain ⟨q, hq⟩ : ∃ q, q = i % fs.length := ⟨_, rfl⟩
    have hql : q < fs.length := by rw [hq]; exact Nat.mod_lt _ h0
    have cq := hc q hql
    obtain ⟨x, hx⟩ : ∃ x, x = fs.getD q 0 := ⟨_, rfl⟩
    rw [← hx] at cq
    have hxr : -9223372036854775808 ≤ x ∧ x ≤ 9223372036854775807 := by
      rw [hx]; exact h1 _ (by rw [List.getD_eq_getElem?_getD, List.getElem?_eq_getElem hql]; exact List.getElem_mem hql)
    have hsp : spare fs i = (x % 257).toNat := by
      unfold spare
      rw [if_neg (by omega), ← hq, ← hx]
    have hmod : Int.tmod (i : Int) (fs.length : Int) = (q : Int) := by
      rw [hq]; exact (Int.ofNat_tmod i fs.length).symm
    have HSP := Hid.mk' hsp
    have hqi : (q : Int) < (fs.length : Int) := by omega
    have hne : ((fs.length : Int) == 0) = false := by
      have : ¬ ((fs.length : Int) = 0) := by omega
      simpa using this
    have hw1 : IntKind.i64.wrap (q : Int) = (q : Int) := wrap64 _ (by omega) (by omega)
    obtain ⟨y, hy⟩ : ∃ y, y = Int.tmod x 257 := ⟨_, rfl⟩
    have ht1 : y < 257 := by rw [hy]; exact Int.tmod_lt_of_pos x (by omega)
    have ht2 : -(257 : Int) < y := by
      have := Int.lt_tmod_of_pos x (b := (257 : Int)) (by omega)
      rw [hy]; omega
    have hem : x % 257 = if y < 0 then y + 257 else y := by
      have h5 := Int.emod_nonneg x (b := 257) (by decide)
      have h6 := Int.emod_lt_of_pos x (b := 257) (by decide)
      have h7 := Int.emod_add_mul_ediv x 257
      have h8 := Int.tmod_add_mul_tdiv x 257
      split <;> omega
    have HEM := Hid.mk' hem
    have hy' : Int.tmod x 257 = y := hy.symm
    have hw2 : IntKind.i64.wrap y = y := wrap64 _ (by omega) (by omega)
    generalize fs.length = n at *
    clear hc hq hx hsp hem hy h1 h2 hb
    by_cases hneg : y < 0
    · have hw3 : IntKind.i64.wrap (y + 257) = y + 257 := wrap64 _ (by omega) (by omega)
      go_enter Try.func29, Try.ntmps29
      go_wp2
      go_ret
      refine ⟨?_, rfl⟩
      rw [HSP.out, HEM.out, if_pos hneg, Int.toNat_of_nonneg (by omega)]
      rfl
    · have hneg' : 0 ≤ y := by omega
      go_enter Try.func29, Try.ntmps29
      go_wp2
      go_ret
      refine ⟨?_, rfl⟩
      rw [HSP.out, HEM.out, if_neg (Int.not_lt.2 hneg'), Int.toNat_of_nonneg hneg']
      rfl
/-- A block of which the first k bytes are laid. -/
def layTo (xs old : List Nat) (k : Nat) : List Nat := xs.take k ++ old.drop k
theorem layTo_wf {xs old : List Nat} {k : Nat} (h1 : wf256 xs) (h2 : wf256 old) (hk : k ≤ 256) : wf256 (layTo xs old k) := by
  refine ⟨?_, fun z hz => ?_⟩
  · unfold layTo
    rw [List.length_append, List.length_take, List.length_drop, h1.1, h2.1]; omega
  · rcases List.mem_append.1 hz with hz | hz
    · exact h1.2 z (List.mem_of_mem_take hz)
    · exact h2.2 z (List.mem_of_mem_drop hz)
/-- What is stored behind the first j of the writes that waited. -/
def tear (s : Dev) (fs : List Int) : Nat → List (List Nat)
  | 0 => s.st
  | j + 1 => (tear s fs j).set (s.wr.getD (s.wt.getD j 0) d0).1 (layTo (s.wr.getD (s.wt.getD j 0) d0).2 ((tear s fs j).getD (s.wr.getD (s.wt.getD j 0) d0).1 []) (spare fs j))
def Dev.on (s : Dev) (fs : List Int) : Dev := { s with st := tear s fs s.wt.length, wt := [], arm := 0, up := true }
theorem tear_len (s : Dev) (fs : List Int) : ∀ j, (tear s fs j).length = s.st.length
  | 0 => rfl
  | j + 1 => by unfold tear; rw [List.length_set]; exact tear_len s fs j
theorem tear_wf {s : Dev} (h : s.ok) (fs : List Int) : ∀ j, j ≤ s.wt.length → ∀ c ∈ tear s fs j, wf256 c
  | 0, _, c, hc => h.st c hc
  | j + 1, hj, c, hc => by
    unfold tear at hc
    have hj' : j < s.wt.length := by omega
    have hm : s.wt.getD j 0 ∈ s.wt := by rw [List.getD_eq_getElem?_getD, List.getElem?_eq_getElem hj']; exact List.getElem_mem hj'
    have hw := h.wl _ hm
    have he := h.wr (s.wr.getD (s.wt.getD j 0) d0) (by rw [List.getD_eq_getElem?_getD, List.getElem?_eq_getElem hw]; exact List.getElem_mem hw)
    rcases List.mem_or_eq_of_mem_set hc with hc | hc
    · exact tear_wf h fs j (by omega) c hc
    · rw [hc]
      refine layTo_wf he.2 (tear_wf h fs j (by omega) _ ?_) (spare_le _ _)
      have hb : (s.wr.getD (s.wt.getD j 0) d0).1 < (tear s fs j).length := by rw [tear_len]; exact he.1
      rw [List.getD_eq_getElem?_getD, List.getElem?_eq_getElem hb]; exact List.getElem_mem hb
theorem exec_copy {w w' : World} {o : Oper} {ρ : Operand → Value} {x y : Operand} {u v r : Value} (ho : o.op = .call { callee := .builtin .copy, args := #[x, y], argTypes := #[65, 65] }) (hx : ρ x = u) (hy : ρ y = v) (h : (Builtin.copy_ #[65, 65] o.type #[u, v]).run Try.prog w = .ok r w') : (execOp ρ o).run Try.prog w = .ok (.value r) w' := by
  unfold execOp
  simp only [ho, resolve, invoke, builtin, Sem.run_bind, Sem.run_pure, Result.andThen_ok, List.map_toArray, List.map_cons, List.map_nil, hx, hy, h]
section
variable {w : World} {own : Owner} {gd : Nat} {s : Dev}
theorem on_up (h : Dv w own gd s) (hu : s.up = true) (v : Value) :
    Calls Try.prog 20 #[.pointer (some ⟨gd, 0, none⟩), v] w fun e w' => e = .returned (.tuple #[]) ∧ w' = w := by
  obtain ⟨gs, vw, bm, vi, h⟩ := h
  have c6 : w.cell? ⟨gd, 6, none⟩ = some (.bool s.up) := h.blk.cell 6
  rw [hu] at c6
  clear h hu
  go_enter Try.func20, Try.ntmps20
  go_wp2
  exact bodyPost_ret (results_none rfl _ _ _) rfl ⟨rfl, rfl⟩
set_option maxRecDepth 100000 in
set_option maxHeartbeats 4000000 in
theorem on_any {v : Value} {fs : List Int} (h : Dv w own gd s) (hu : s.up = false) (hf : IntF w (Is own .none) v fs) (hm : s.wr.length ≤ 100000) :
    Calls Try.prog 20 #[.pointer (some ⟨gd, 0, none⟩), v] w fun e w' => e = .returned (.tuple #[]) ∧ DvTo w own gd (s.on fs) w' := by
  obtain ⟨gs, vw, bm, vi, h⟩ := h
  have hb := h.blk
  have f5 : w.frozen? ⟨gd, 5, none⟩ = false := hb.free 5
  have f6 : w.frozen? ⟨gd, 6, none⟩ = false := hb.free 6
  have c5 : w.cell? ⟨gd, 5, none⟩ = some (.int .i64 (s.arm : Int)) := hb.cell 5
  have c6 : w.cell? ⟨gd, 6, none⟩ = some (.bool s.up) := hb.cell 6
  rw [hu] at c6
  obtain ⟨w1, hw1⟩ : ∃ w1, w1 = (w.setCell ⟨gd, 6, none⟩ (.bool true)).setCell ⟨gd, 5, none⟩ (.int .i64 0) := ⟨_, rfl⟩
  have hb1 : But (· = gd) w w1 := by rw [hw1]; exact (But.set1 _ _ _ _).trans (But.set1 _ _ _ _)
  have d1 : DvM w1 own gd { s with arm := 0, up := true } gs vw bm vi := by
    refine h.scal hb1 ?_
    rw [hw1]; exact (hb.set 6 (.bool true)).set 5 (.int .i64 0)
  have HWA := Hid.mk' (waiting_any ⟨gs, vw, bm, vi, d1⟩ hm)
  have HD1 := Hid.mk' d1
  have HB1 : Hid (But (fun b => own b ≠ .none) w w1) := hb1.mono (fun b _ e => by rw [e, h.tag]; decide)
  have HF1 : Hid (IntF w1 (Is own .none) v fs) := hf.but hb1 (fun j hj e => by have hj : own j = .none := hj; rw [e, h.tag] at hj; cases hj)
  have HW1 := Hid.mk' hw1
  have HOK := Hid.mk' h.ok
  have HTOP : Hid (Top w1 own) := d1.top
  have HTG : Hid (own gd = .dev ∧ own gs = .sto ∧ own bm = .map) := ⟨h.tag, h.stt, h.mat⟩
  have HWL : Hid (s.wt.length ≤ 100000) := Nat.le_trans (wt_len h.ok) hm
  obtain ⟨ws, hws⟩ : ∃ l, l = s.wt := ⟨_, rfl⟩
  have HWS := Hid.mk' hws
  clear h hb hu hf hm hw1 hb1 d1 hws
  go_enter Try.func20, Try.ntmps20
  go_wp2_with fail
  rw [← HW1.out]
  refine Calls.mono HWA.out ?_
  rintro e w2 ⟨⟨vn, rfl, hnum, hnew⟩, hg2⟩
  have HNUM : Hid (NumS w2 vn ws) := by rw [HWS.out]; exact hnum
  have HN2 : Hid (∀ k, w1.heap.size ≤ k → own k = .none) := HTOP.out
  obtain ⟨an, cn, rfl⟩ : ∃ an cn, vn = .slice an ws.length cn := by
    rcases HNUM.out with ⟨e1, ao, cap, e2⟩ | ⟨-, g, cap, e2, -⟩
    · exact ⟨ao, cap, by rw [e2, e1]; rfl⟩
    · exact ⟨_, _, e2⟩
  have HD2 := Hid.mk' (HD1.out.but hg2 (fun _ _ h => h))
  have HF2 := Hid.mk' (HF1.out.but hg2 (fun _ _ h => h))
  have HB2 : Hid (But (fun b => own b ≠ .none) w w2) := HB1.out.trans (hg2.mono (fun _ _ h => h.elim))
  have HNO : Hid (∀ k, (.slice an ws.length cn : Value).ownBlock = some k → own k = .none) := fun k hk => HN2.out k (hnew k hk)
  have HLL : Hid (ws.length = s.wt.length) := by rw [HWS.out]; rfl
  obtain ⟨l, hl⟩ : ∃ l, l = ws.length := ⟨_, rfl⟩
  have HL := Hid.mk' hl
  rw [← hl] at HNO HNUM ⊢
  have hlb : l ≤ 100000 := by have := HLL.out; have := HWL.out; omega
  clear hnum hnew hg2 HD1 HF1 HB1 HWA HN2 hl HTOP HW1 c5 c6 f5 f6
  go_wp2
  go_loopw [24] (fun iv wr => ∃ j : Nat, j ≤ l ∧ iv = .int .i64 j ∧ DvM wr own gd { s with arm := 0, up := true, st := tear s fs j } gs vw bm vi ∧ NumS wr (.slice an l cn) ws ∧ IntF wr (Is own .none) v fs ∧ But (fun b => own b ≠ .none) w wr) (fun iv _ => l - (intOf iv).toNat)
  case atStart => exact ⟨0, Nat.zero_le _, rfl, HD2.out, HNUM.out, HF2.out, HB2.out⟩
  case round =>
    clear HD2 HNUM HF2 HB2
    obtain ⟨j, hj, rfl, hD, hN, hF, hB⟩ := hrel
    have HD := Hid.mk' hD
    have HN := Hid.mk' hN
    have HF := Hid.mk' hF
    have HB := Hid.mk' hB
    by_cases hlt : j < l
    · have hlti : (j : Int) < (l : Int) := by omega
      rcases hN with ⟨e1, -⟩ | ⟨h0, gn, capn, e1, hgn, hcn⟩
      · exact absurd HL.out (by rw [e1]; simp; omega)
      simp only [Value.slice.injEq] at e1
      obtain ⟨rfl, -, rfl⟩ := e1
      obtain ⟨i, hi⟩ : ∃ i, i = ws.getD j 0 := ⟨_, rfl⟩
      have hjw : j < ws.length := by rw [← HL.out]; exact hlt
      have him : i ∈ s.wt := by rw [hi, HWS.out, List.getD_eq_getElem?_getD, List.getElem?_eq_getElem (by rw [← HWS.out]; exact hjw)]; exact List.getElem_mem _
      have cj : wr.cell? ⟨gn, j, none⟩ = some (.int .i64 (i : Int)) := hcn j _ (by
        rw [hi]; simp [ints, List.getD, hjw])
      have hil := HOK.out.wl i him
      obtain ⟨gw, cw, rfl, hgw, hcw⟩ := hD.wrote hil
      obtain ⟨e, he⟩ : ∃ e, e = s.wr.getD i d0 := ⟨_, rfl⟩
      have hwf := HOK.out.wr e (by rw [he, List.getD_eq_getElem?_getD, List.getElem?_eq_getElem hil]; exact List.getElem_mem hil)
      have hcw : ∀ c u, (wcell e)[c]? = some u → wr.cell? ⟨gw, i * 257 + c, none⟩ = some u := by rw [he]; exact hcw
      obtain ⟨b, xs⟩ := e
      have hbn : b < s.st.length := hwf.1
      have HXW : Hid (wf256 xs) := hwf.2
      have cb : wr.cell? ⟨gw, i * 257, none⟩ = some (.int .i64 (b : Int)) := hcw 0 _ rfl
      have HCX : Hid (∀ c, c < 256 → wr.cell? ⟨gw, i * 257 + 1 + c, none⟩ = some (.int .u8 (xs.getD c 0 : Nat))) := fun c hc => by
        rw [Nat.add_assoc, Nat.add_comm 1 c]
        refine hcw (c + 1) _ ?_
        unfold wcell
        rw [List.getElem?_cons_succ]
        exact u8s_get xs c (by rw [HXW.out.1]; exact hc)
      obtain ⟨T, hT⟩ : ∃ T, T = tear s fs j := ⟨_, rfl⟩
      have HTL : Hid (T.length = s.st.length) := by rw [hT]; exact tear_len s fs j
      have HTW : Hid (∀ c ∈ T, wf256 c) := by rw [hT]; exact tear_wf HOK.out fs j (by rw [← HLL.out, ← HL.out]; omega)
      obtain ⟨k, hk⟩ : ∃ k, k = spare fs j := ⟨_, rfl⟩
      have hk256 : (k : Int) ≤ 256 := by have := spare_le fs j; omega
      have HSPC : Hid (∀ w', But (· = gs) wr w' → Calls Try.prog 29 #[v, .int .i64 (j : Int)] w' fun e w'' => e = .returned (.int .i64 (k : Int)) ∧ Grow w' w'') := fun w' hw => by
        rw [hk]
        refine (spared_any (HF.out.but hw (fun c hc e => by have hc : own c = .none := hc; rw [e, HTG.out.2.1] at hc; cases hc)).1 j).mono ?_
        rintro e w'' ⟨rfl, rfl⟩
        exact ⟨rfl, But.refl _ _⟩
      have HNX : Hid (tear s fs (j + 1) = T.set b (layTo xs (T.getD b []) k)) := by
        show tear s fs (j + 1) = _
        unfold tear
        rw [← HWS.out, ← hi, ← he, ← hT, ← hk]
      rw [← hT] at HD
      obtain ⟨n, hn⟩ : ∃ n, n = s.st.length := ⟨_, rfl⟩
      have hbi : (b : Int) < (n : Int) := by omega
      have HN0 : Hid (T.length = n) := HTL.out.trans hn.symm
      have HBT : Hid (b < T.length) := by show _ < _; rw [HTL.out]; exact hbn
      obtain ⟨m, hm⟩ : ∃ m, m = s.wr.length := ⟨_, rfl⟩
      have hii : (i : Int) < (m : Int) := by omega
      have c1 : wr.cell? ⟨gd, 1, none⟩ = some (.slice (some ⟨gw, 0, none⟩) m cw) := by rw [hm]; exact HD.out.blk.cell 1
      have HCB := Hid.mk' cb
      have HGW : Hid (gw < wr.heap.size ∧ ¬ gw = gs) := ⟨HD.out.top.lt (by rw [hgw]; decide), fun e => by rw [e, HTG.out.2.1] at hgw; cases hgw⟩
      have HSB : Hid (∀ w', But (· = gs) wr w' → w'.cell? ⟨gd, 0, none⟩ = some (.slice (some ⟨gs, 0, none⟩) n n)) := fun w' hw => by
        have := (HD.out.blk.but hw (fun e => by have := HTG.out.1; rw [e, HTG.out.2.1] at this; cases this)).cell 0
        rw [← HN0.out]; exact this
      have HGN : Hid (own gn = .none) := HNO.out gn rfl
      have HK := Hid.mk' (show k ≤ 256 by omega)
      clear hD hF hB hcn hgn hjw him hil hgw hcw hwf hbn hT hk hn hm hi he h0 cb
      go_upto_region 6 with fail
      clear c1 cj
      refine region_chain [([0, 1, 2, 3, 4, 5, 6, 7, 8, 9, 10, 11, 12, 13, 14, 15, 16], 17)] [] (But (· = gs) wr) (Grow wr) (by kernel_rfl) (by kernel_rfl) (fun _ _ h k => h.trans k) (fun _ h => h.mono (fun _ _ h => h.elim)) ((But.refl _ wr).drew) ?_
      intro ι hne X hX
      have c0 : ∀ x, (X x).cell? ⟨gd, 0, none⟩ = some (.slice (some ⟨gs, 0, none⟩) n n) := fun x => HSB.out _ (hX x)
      have c7 : ∀ x, (X x).cell? ⟨gw, i * 257, none⟩ = some (.int .i64 (b : Int)) := fun x => (World.cell?_of_block ((hX x).block gw HGW.out.1 HGW.out.2)).trans HCB.out
      iterate 15 (refine still_step rfl (fun K hK => ?_); go_simp; refine hK _ ?_; clear hK K)
      refine still_call rfl (.int .i64 (k : Int)) 29 #[v, .int .i64 (j : Int)] rfl (fun x => by kernel_rfl) (fun x => HSPC.out _ (hX x)) ?_
      intro K hK; go_simp; refine hK _ ?_; clear hK K
      iterate 1 (refine still_step rfl (fun K hK => ?_); go_simp; refine hK _ ?_; clear hK K)
      refine still_nil ?_
      clear c0 c7 hX hne
      refine turn_run rfl rfl (fun _ w' => ∃ w5, But (· = gs) wr w5 ∧ Blk w5 gs 62 ((T.set b (layTo xs (T.getD b []) k)).flatMap u8s) ∧ Grow w5 w') (fun _ => But (· = gs) wr) (fun _ w4 w5 ⟨w6, h1, h2, h3⟩ k => ⟨w6, h1, h2, h3.trans k⟩) (fun _ _ ⟨w6, h1, h2, h3⟩ => h1.trans (h3.mono (fun _ _ h => h.elim))) (.inr (fun _ _ h => h)) ?_ ?_
      · intro w4 h4
        have hb0 : Blk w4 gs 62 (T.flatMap u8s) := HD.out.sto.but h4 (fun h => h)
        rw [flat_cut HBT.out] at hb0
        obtain ⟨C, hC⟩ : ∃ C, C = T.getD b [] := ⟨_, rfl⟩
        have hCw : wf256 C := by rw [hC]; exact HTW.out _ (by rw [List.getD_eq_getElem?_getD, List.getElem?_eq_getElem HBT.out]; exact List.getElem_mem HBT.out)
        have hk2 := HK.out
        rw [← hC] at hb0 ⊢
        have hsplit : (T.take b).flatMap u8s ++ u8s C ++ (T.drop (b + 1)).flatMap u8s = (T.take b).flatMap u8s ++ (u8s C).take k ++ ((u8s C).drop k ++ (T.drop (b + 1)).flatMap u8s) := by
          conv => lhs; rw [← List.take_append_drop k (u8s C)]
          simp only [List.append_assoc]
        rw [hsplit] at hb0
        have hyl : (xs.take k).length = k := by rw [List.length_take, HXW.out.1]; omega
        have hcp := run_copy_blk (off := b * 256) (dLen := 256) (dCap := 256) (sCap := 256) (b := gw) (so := i * 257 + 1) (n := k) (ys := xs.take k) 3 hb0 (flat_pre HTW.out (Nat.le_of_lt HBT.out)) (by rw [List.length_take, u8s_len, hCw.1]; omega) (by rw [hyl]; simp [Nat.min_eq_left hk2]) (fun c hc => by
          rw [hyl] at hc
          have := grow_cell h4 (HCX.out c (by omega))
          rw [this]
          simp [List.getD, hc])
        rw [hyl] at hcp
        refine ⟨_, _, .inl (exec_copy rfl rfl rfl hcp), _, (But.setRow (R := (· = gs)) (h4.mono (fun _ _ h => h.elim)) (fun _ => rfl) _), ?_, But.refl _ _⟩
        rw [flat_set HBT.out]
        have hfin : (T.take b).flatMap u8s ++ u8s (layTo xs C k) ++ (T.drop (b + 1)).flatMap u8s = (T.take b).flatMap u8s ++ u8s ((xs.take k).take k) ++ ((u8s C).drop k ++ (T.drop (b + 1)).flatMap u8s) := by
          unfold layTo u8s
          rw [List.take_take, Nat.min_self, List.map_append, List.map_drop]
          simp only [List.append_assoc]
        rw [hfin]
        exact hb0.row _
      · rintro v5 - Y hY
        go_simp
        refine hY _ ?_
        clear hY Y
        intro ι hne X hX
        refine still_nil ?_
        clear hX hne
        rintro w6 ⟨w5, h1, h2, h3⟩
        have hlw : ∀ c ∈ T.set b (layTo xs (T.getD b []) k), wf256 c := fun c hc => by
          rcases List.mem_or_eq_of_mem_set hc with hc | hc
          · exact HTW.out c hc
          · rw [hc]
            exact layTo_wf HXW.out (HTW.out _ (by rw [List.getD_eq_getElem?_getD, List.getElem?_eq_getElem HBT.out]; exact List.getElem_mem HBT.out)) HK.out
        have HD6 := Hid.mk' ((HD.out.store h1 h2 (by rw [List.length_set]) hlw).but h3 (fun _ _ h => h))
        rw [← HNX.out] at HD6
        have hngs : ∀ c, own c = .none → ¬ c = gs := fun c hc e => by rw [e, HTG.out.2.1] at hc; cases hc
        have HN6 : Hid (NumS w6 (.slice (some ⟨gn, 0, none⟩) l cn) ws) := by
          rcases HN.out with e9 | ⟨q0, q1, q2, q3, q4, q5⟩
          · exact .inl e9
          · refine .inr ⟨q0, q1, q2, q3, ?_, fun c u hc => ?_⟩
            · exact Nat.lt_of_lt_of_le q4 (Nat.le_trans h1.size h3.size)
            · have e5 : q1 = gn := by simp only [Value.slice.injEq, Option.some.injEq, Addr.mk.injEq, and_true] at q3; exact q3.1.symm
              refine grow_cell h3 ((World.cell?_of_block (h1.block q1 q4 (hngs q1 (by rw [e5]; exact HGN.out)))).trans (q5 c u hc))
        have HF6 := Hid.mk' ((HF.out.but h1 (fun c hc e => hngs c hc e)).but h3 (fun _ _ h => h))
        have HB6 : Hid (But (fun b => own b ≠ .none) w w6) := (HB.out.trans (h1.mono (fun c _ e => by rw [e, HTG.out.2.1]; decide))).trans (h3.mono (fun _ _ h => h.elim))
        clear h1 h2 h3 hlw hngs
        go_wp2
        exact ⟨⟨j + 1, by omega, by go_num, HD6.out, HN6.out, HF6.out, HB6.out⟩, by simp [intOf]; omega⟩
    · have hlti : ¬ ((j : Int) < (l : Int)) := by omega
      have hjl : j = s.wt.length := by rw [← HLL.out, ← HL.out]; omega
      obtain ⟨M', hM', -, -⟩ := hD.map.ex
      obtain ⟨w4, hcl, hM4, hb4, -⟩ := hM'.clear (t := 51) Try.underlying51 0
      have HCL := Hid.mk' hcl
      have HFIN : Hid (DvTo w own gd (s.on fs) w4) := by
        refine ⟨HB.out.trans (hb4.mono (fun b _ e => by rw [e, HTG.out.2.2]; decide)), own, Fresh.refl _ _, gs, vw, bm, vi, ?_⟩
        have h5 := hD.maps (wt' := []) hb4 ⟨[], hM4, fun p hp => absurd hp List.not_mem_nil, fun b hb => absurd rfl hb⟩ .nil (fun i hi => absurd hi List.not_mem_nil)
        rw [hjl] at h5
        exact h5
      have c2 : wr.cell? ⟨gd, 2, none⟩ = some (.map (some bm)) := hD.blk.cell 2
      clear hD hN hF hB hM' hcl hM4 hb4 hjl
      go_wp2_with (first
        | (refine wpList_run rfl (exec_clear rfl rfl HCL.out) ?_)
        | fail)
      go_end0
      exact ⟨rfl, HFIN.out⟩
end
end Go.Proofs.Ytcikldklacgafaa
