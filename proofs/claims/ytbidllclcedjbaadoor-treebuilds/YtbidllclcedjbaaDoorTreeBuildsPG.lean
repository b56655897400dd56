/- TreeBuilds: the walk. -/
import Derived.Test.YtbidllclcedjbaaDoorTrRootG
import Derived.Test.YtbidllclcedjbaaDoorTreeDigestsPG
namespace Go.Proofs.YtbidllclcedjbaaDoor
open Go.RowKit

/-- What Build makes is what the reference has. -/
theorem bld_all {p : Pn} (h : Mad p) {C : List Bk} {n c : Nat} (hC : (C.length : Int) = p.counters) (ho : okB C) (hn : n = (p.counters + p.nodes).toNat) (hc : c = C.length) :
    bldL p.pages C p.levels = ((List.range n).map (stN p.dig p.parN (ini C) n)).drop c ∧ rootOf p C = bd (p.head - 1) (((List.range n).map (stN p.dig p.parN (ini C) n)).getD (n - 1) []) := by
  have hl := treeOf_len h hC ho
  rw [← hn] at hl
  have he : treeOf p C = (List.range n).map (stN p.dig p.parN (ini C) n) := by
    refine eq_of_getD2 (by simp [hl]) (fun i hi => ?_)
    rw [hl] at hi
    have := treeOf_eq h hC ho i (by omega)
    rw [← hn] at this
    rw [this]
    simp [List.getD, hi]
  refine ⟨?_, ?_⟩
  · rw [← he, hc]; unfold treeOf; simp
  · unfold rootOf; rw [hl, he]
theorem BRow.low {w : World} {F G : Nat → Prop} {v : Value} {L : List BE} (h : BRow w F G v L) : BRow w (fun j => j < w.heap.size) (fun j => j < w.heap.size) v L :=
  ⟨⟨h.row.own, fun k hk => (h.row.own.lt k hk).2⟩, fun e he => (h.el e he).1.bf⟩
theorem callableGN (args : Array Value) (w : World) : (callFunc 10 args).run Tryd.prog w = .ok (.enter 10 args) w := by kernel_rfl
theorem callableTB (args : Array Value) (w : World) : (callFunc 21 args).run Tryd.prog w = .ok (.enter 21 args) w := by kernel_rfl
/-- What stands in memory amid the drawn operations around Build. -/
structure Bd2 (w2 w' : World) (gl g : Nat) (nv : Value) (BL : List Bk) (Z : List Value) (R : List Nat) (l0 l3 l8 l10 : Bool) : Prop where
  gr : Grow w2 w'
  lg : l0 = true → w2.heap.size ≤ gl ∧ gl < w'.heap.size ∧ (l3 = false → Lg w' (tagAt (fun _ => .none) gl .log) gl [] [] [])
  nd : l3 = true → ∃ L, BRow w' (fun j => j < w'.heap.size ∧ (l8 = true → j ≠ g)) (fun j => j < w'.heap.size ∧ (l8 = true → j ≠ g)) nv L ∧ L.map (·.2) = BL
  rt : l8 = true → w2.heap.size ≤ g ∧ g < w'.heap.size ∧ (l0 = true → g ≠ gl) ∧ Blk w' g 26 (if l10 = true then u8s R else Z)
  i3 : l3 = true → l0 = true
  i10 : l10 = true → l8 = true ∧ l3 = true
theorem Bd2.start {w2 w' : World} {gl g : Nat} {nv : Value} {BL : List Bk} {Z : List Value} {R : List Nat} (k : Grow w2 w') : Bd2 w2 w' gl g nv BL Z R false false false false :=
  ⟨k, nofun, nofun, nofun, nofun, nofun⟩
theorem Bd2.own {w2 w' : World} {gl g : Nat} {nv : Value} {BL : List Bk} {Z : List Value} {R : List Nat} {l0 l3 l8 l10 : Bool} (h : Bd2 w2 w' gl g nv BL Z R l0 l3 l8 l10) (h0 : l0 = true) : ∀ b, tagAt (fun _ => Tag.none) gl .log b ≠ .none → w2.heap.size ≤ b := fun b hb => by
  by_cases hbg : b = gl
  · rw [hbg]; exact (h.lg h0).1
  · exact absurd (by unfold tagAt; rw [if_neg hbg]) hb
theorem Bd2.new {w2 w' w5 : World} {gl gl' g : Nat} {nv : Value} {BL : List Bk} {Z : List Value} {R : List Nat} {l3 l8 l10 : Bool} (h : Bd2 w2 w' gl g nv BL Z R false l3 l8 l10) (hgl : gl' = w'.heap.size) (hg : Grow w' w5) (hl : Lg w5 (tagAt (fun _ => .none) gl' .log) gl' [] [] []) : Bd2 w2 w5 gl' g nv BL Z R true l3 l8 l10 := by
  have e3 : l3 = false := by cases l3; rfl; exact absurd (h.i3 rfl) (by simp)
  subst e3
  obtain ⟨_, _, _, _, _, _, hv⟩ := id hl
  have hlt := hv.blk.lt
  refine ⟨h.gr.trans hg, fun _ => ⟨by rw [hgl]; exact h.gr.size, hlt, fun _ => hl⟩, nofun, fun h8 => ?_, nofun, fun h10 => ⟨(h.i10 h10).1, (h.i10 h10).2⟩⟩
  obtain ⟨a, b, -, d⟩ := h.rt h8
  exact ⟨a, by have := hg.size; omega, fun _ => by omega, d.but hg (fun h => h)⟩
theorem Bd2.bld {w2 w' w5 : World} {gl g : Nat} {nv v' : Value} {BL : List Bk} {Z : List Value} {R : List Nat} {l8 l10 : Bool} {L : List BE} (h : Bd2 w2 w' gl g nv BL Z R true false l8 l10) (q1 : BRow w5 (fun j => w'.heap.size ≤ j) (fun j => w'.heap.size ≤ j) v' L) (q2 : L.map (·.2) = BL) (q3 : Grow w2 w5) (q4 : But (fun b => tagAt (fun _ => Tag.none) gl .log b ≠ .none) w' w5) : Bd2 w2 w5 gl g v' BL Z R true true l8 l10 := by
  have hlow := q1.low
  have hboth : BRow w5 (fun j => j < w5.heap.size ∧ (l8 = true → j ≠ g)) (fun j => j < w5.heap.size ∧ (l8 = true → j ≠ g)) v' L := by
    refine ⟨⟨q1.row.own, fun k hk => ⟨hlow.row.inF k hk, fun h8 => ?_⟩⟩, fun e he => ?_⟩
    · have h1 := q1.row.inF k hk
      have h2 := (h.rt h8).2.1
      omega
    · have h2 := fun h8 => (h.rt h8).2.1
      refine ⟨(q1.el e he).1, fun h0 j hj => ⟨(hlow.el e he).2 h0 j hj, fun h8 => ?_⟩⟩
      have h3 : w'.heap.size ≤ j := (q1.el e he).2 h0 j hj
      have := h2 h8
      omega
  refine ⟨q3, fun _ => ⟨(h.lg rfl).1, by have := (h.lg rfl).2.1; have := q4.size; omega, nofun⟩, fun _ => ⟨L, hboth, q2⟩, fun h8 => ?_, fun _ => rfl, fun h10 => ⟨(h.i10 h10).1, rfl⟩⟩
  obtain ⟨a, b, d, e⟩ := h.rt h8
  exact ⟨a, by have := q4.size; omega, d, e.but q4 (fun hq => hq (by unfold tagAt; rw [if_neg (d rfl)]))⟩
theorem Bd2.var {w2 w' : World} {gl g : Nat} {nv : Value} {BL : List Bk} {Z : List Value} {R : List Nat} {l0 l3 : Bool} (h : Bd2 w2 w' gl g nv BL Z R l0 l3 false false) : Bd2 w2 (w'.alloc (.cells Z.toArray 26)) gl w'.heap.size nv BL Z R l0 l3 true false := by
  have k : Grow w' (w'.alloc (.cells Z.toArray 26)) := (But.refl _ w').alloc _
  have hs := k.size
  have hb : Blk (w'.alloc (.cells Z.toArray 26)) w'.heap.size 26 Z := Blk.new rfl
  refine ⟨h.gr.trans k, fun h0 => ⟨(h.lg h0).1, by have := (h.lg h0).2.1; omega, fun h3 => ((h.lg h0).2.2 h3).but k (fun _ _ h => h)⟩, fun h3 => ?_, fun _ => ⟨h.gr.size, hb.lt, fun h0 => by have := (h.lg h0).2.1; omega, by simpa using hb⟩, h.i3, nofun⟩
  obtain ⟨L, h1, h2⟩ := h.nd h3
  exact ⟨L, h1.but k (fun _ _ h => h) (fun _ _ h => h) (fun j hj => ⟨by omega, fun _ => by omega⟩) (fun j hj => ⟨by omega, fun _ => by omega⟩), h2⟩
theorem Bd2.put {w2 w' w5 : World} {gl g : Nat} {nv : Value} {BL : List Bk} {Z : List Value} {R : List Nat} {l0 l10 : Bool} (h : Bd2 w2 w' gl g nv BL Z R l0 true true l10) (hb : Blk w5 g 26 (u8s R)) (k : But (· = g) w' w5) : Bd2 w2 w5 gl g nv BL Z R l0 true true true := by
  have hs := k.size
  obtain ⟨r1, r2, r3, -⟩ := h.rt rfl
  refine ⟨h.gr.then k (fun i hi e => by omega), fun h0 => ⟨(h.lg h0).1, by have := (h.lg h0).2.1; omega, nofun⟩, fun h3 => ?_, fun _ => ⟨r1, hb.lt, r3, by simpa using hb⟩, h.i3, fun _ => ⟨rfl, rfl⟩⟩
  obtain ⟨L, h1, h2⟩ := h.nd rfl
  exact ⟨L, h1.but k (fun j hj e => hj.2 rfl e) (fun j hj e => hj.2 rfl e) (fun j hj => ⟨by omega, hj.2⟩) (fun j hj => ⟨by omega, hj.2⟩), h2⟩
/-- A row of a law's own whose block i is cut short by one byte. -/
theorem nb_short {base : Nat} {w : World} {v : Value} {n : Nat} {G : Nat → Nat} {T : Nat → List Nat} (h : Nb base w v n G T) {i : Nat} (hi : i < n) :
    ∃ b rc cap M, v = .slice (some ⟨b, 0, none⟩) n rc ∧ n ≤ rc ∧ w.cell? ⟨b, i, none⟩ = some (.slice (some ⟨G i, 0, none⟩) 256 cap) ∧ 256 ≤ cap ∧ Blk w b 22 M ∧ i < M.length ∧ base ≤ b ∧ (T i).length = 256 ∧
      ∀ w', Blk w' b 22 (M.set i (.slice (some ⟨G i, 0, none⟩) 255 cap)) → But (· = b) w w' → Ps w' v (((List.range n).map T).set i ((T i).take 255)) := by
  obtain ⟨b, rc, cap, R, hv, hc, h256, hbk, hl, hz, hne, -, -⟩ := h.opn hi
  subst hv
  obtain ⟨⟨V, h1, h2⟩, h3, h4, h5⟩ := h
  have hr : RowOf w (fun _ => True) 22 1 (.slice (some ⟨b, 0, none⟩) n rc) n ((List.range n).map V) := ⟨h1, fun _ _ => trivial⟩
  obtain ⟨M, hM, -⟩ := hr.blk
  obtain ⟨ao, cp, e1, hcl⟩ := hr.shape
  simp only [Value.slice.injEq] at e1
  obtain ⟨rfl, -, rfl⟩ := e1
  obtain ⟨g, e2, -, -, hcl⟩ := hcl (by omega)
  simp only [Option.some.injEq, Addr.mk.injEq, and_true] at e2
  subst e2
  have hMc : ∀ j, j < n → M[j]? = some (V j) := fun j hj => by
    have := hcl j (V j) (by simp [hj])
    rw [hM.cell] at this
    exact this
  have hVi : V i = .slice (some ⟨G i, 0, none⟩) 256 cap := by
    have := hMc i hi
    rw [← hM.cell, hc] at this
    exact (Option.some.inj this).symm
  have hiM : i < M.length := (List.getElem?_eq_some_iff.1 (hMc i hi)).1
  refine ⟨b, rc, cap, M, rfl, hr.cap.1, hc, h256, hM, hiM, (h3 b rfl).1, hl, fun w' hb' k => .inr ⟨by simp; omega, b, 0, rc, by simp, hb'.lt, fun j hj => ?_⟩⟩
  have hj' : j < n := by simpa using hj
  rw [Nat.zero_add, hb'.cell]
  have hB := ((h2 j hj').but k (fun e => (h3 b rfl).2 j hj' e)).bs
  by_cases hji : j = i
  · subst hji
    rw [hVi] at hB
    refine ⟨_, by rw [List.getElem?_set_self hiM], ?_⟩
    have := hB.front (n := 255) (by omega) (by simp)
    simpa [List.getD, hj'] using this
  · refine ⟨V j, by rw [List.getElem?_set_ne (Ne.symm hji)]; exact hMc j hj', ?_⟩
    simpa [List.getD, hj', List.getElem?_set, Ne.symm hji] using hB
theorem iSlB : (Tryd.prog.info? 22).map (·.size) = some 1 := by kernel_rfl
theorem exec_bz {w : World} {o : Oper} {ρ : Operand → Value} (ho : o.op = .build 26 #[]) : (execOp ρ o).run Tryd.prog w = .ok (.value (.agg (u8s z32).toArray)) w :=
  exec_build _ [] ho [] rfl _ (bz32 w)
theorem whl_short {C : List Bk} {k : Nat} {x : Bk} (hk : k < C.length) (hx : x.length ≠ 256) : whl (C.set k x) = false := by
  cases h : whl (C.set k x) with
  | false => rfl
  | true => exact absurd (whl_true h x (List.mem_iff_getElem?.2 ⟨k, by simp [hk]⟩)) hx
set_option maxRecDepth 100000 in
set_option maxHeartbeats 30000000 in
theorem treeBuilds_walk (a0 : Int) (v1 : Value) (z1 : List Nat) (a2 : Int) (w : World) (hk : Kw w) (hh : Hw w) (_h0 : (Lit.int .i64 a0).wf = true) (h1 : Bs w v1 z1 ∧ z1.length ≤ 140737488351232) (_h2 : (Lit.int .i64 a2).wf = true) :
    Calls Tryd.prog 5 #[.int .i64 a0, v1, .int .i64 a2] w fun e w' => e = .returned (.bool true) ∧ Below w.heap.size w w' := by
  have HK := Hid.mk' hk
  have HH := Hid.mk' hh
  have HMD := Hid.mk' (made_tr (x := a0) h1.1 (by omega))
  obtain ⟨n0, hn0⟩ : ∃ n, n = 1 + (a0 % 300).toNat := ⟨_, rfl⟩
  rw [← hn0] at HMD
  have hn1 : 1 ≤ n0 := by omega
  have hn3 : n0 ≤ 300 := by omega
  obtain ⟨P, hP⟩ : ∃ P, P = plan n0 4 := ⟨_, rfl⟩
  have HPE : Hid (plan n0 4 = P) := hP.symm
  have HPM : Hid (Mad P) := by show Mad P; rw [hP]; exact plan_mad hn1 (by omega)
  have HLV : Hid (Lvl P.counters P.levels) := by show Lvl _ _; rw [hP]; exact plan_lvl hn1 (by omega)
  obtain ⟨c, hc⟩ : ∃ c, c = bg n0 16 := ⟨_, rfl⟩
  have hPc : P.counters = (c : Int) := by rw [hP, hc]; rfl
  have hc1 : 1 ≤ c := by rw [hc]; unfold bg; omega
  have hc2 : c ≤ 19 := by rw [hc]; unfold bg; omega
  have HPC := Hid.mk' hPc
  have hnums0 : ∀ w1 pv, Own w w1 pv (plan n0 4).levels → Nums w1 pv P.levels := fun w1 pv ho => by rw [hP]; exact (Pm.of hn1 (by omega) ho).nums
  have HNU0 := Hid.mk' hnums0
  have hsz0 : 1 ≤ P.head ∧ P.head ≤ 1000000 ∧ 1 ≤ P.nodes := by
    have h1 := HPM.out.pg
    have h2 := HPM.out.c1
    have h3 := HPM.out.nd
    have h4 := HPM.out.sum
    have h5 := HPM.out.hd
    obtain ⟨a, ls', e1, e2, -⟩ := HLV.out.head
    have h6 := LvC.pos h2.1 HPM.out.lv
    have h7 := h6.1 a (by rw [e1]; exact List.mem_cons_self)
    have h8 : sm P.levels = a + sm ls' := by rw [e1]; rfl
    have h9 : 0 ≤ sm ls' := by
      have := HPM.out.lv
      rw [e1] at this
      exact (LvC.pos (by omega) this.2).2
    omega
  have HSZ := Hid.mk' hsz0
  have HAW : Hid (∀ w', Grow w w' → Calls Tryd.prog 9 #[] w' fun e w'' => e = .returned (.bool true) ∧ Grow w' w'') := fun w' k => awaket_any (hk.but k (fun h => h)) (hh.but k (fun h => h))
  obtain ⟨Z, hZ⟩ : ∃ Z, Z = u8s z32 := ⟨_, rfl⟩
  have hz := z32v
  rw [← hZ] at hz
  have HZL : Hid (Z.length = 32) := by show _ = _; rw [hZ]; rfl
  have HZZ := Hid.mk' hz
  have HZE := Hid.mk' hZ
  have hbg : bg n0 16 = c := hc.symm
  have HBG := Hid.mk' hbg
  obtain ⟨fa, fn, fc, rfl⟩ := h1.1.sl
  clear hk hh h1 _h0 _h2 hn0 hP hc hPc hnums0 hsz0 hZ hbg
  go_enter Tryd.func5, Tryd.ntmps5
  go_wp2_with fail
  refine Calls.mono HMD.out ?_
  rintro e w1 ⟨⟨pv, v, G, T, rfl, hop, hnb⟩, hg1⟩
  rw [HBG.out] at hnb
  have hnums := HNU0.out w1 pv hop
  obtain ⟨va, ln, vc, rfl⟩ : ∃ va ln vc, pv = .slice va ln vc := by
    obtain ⟨a, b, e⟩ := hop.sl
    exact ⟨a, _, b, e⟩
  obtain ⟨la, lc, hle⟩ := hnb.len
  subst hle
  have HNB1 := Hid.mk' hnb
  have HNU1 := Hid.mk' hnums
  have HG1 := Hid.mk' hg1
  rw [HPE.out]
  clear hop hnb hg1 hnums HMD HNU0
  go_upto_region 2 with (first
    | (refine wpList_runH rfl (exec_allocF rfl (zPl _)) ?_)
    | (refine wpList_store_at rfl _ _ _ rfl w1.heap.size 0 (pcells P (.slice va ln vc)) rfl (by exact rfl) 44 [] (pcells Pn.zero noS) [] (var_new w1) rfl rfl iPl (pcells_one _ rfl) ?_; intro w2 hb2 hbut2; rw [List.nil_append, List.append_nil] at hb2)
    | fail)
  obtain ⟨g7, hg7⟩ : ∃ g, g = w1.heap.size := ⟨_, rfl⟩
  have hg2 := var_grow hbut2
  rw [← hg7] at hb2 ⊢
  have HBP := Hid.mk' hb2
  have HG2 := Hid.mk' (HG1.out.trans hg2)
  have HNU2 := Hid.mk' (HNU1.out.grow hg2)
  have HNB2 := Hid.mk' (HNB1.out.grow hg2)
  obtain ⟨C, hC⟩ : ∃ C, C = (List.range c).map T := ⟨_, rfl⟩
  have HCL : Hid (C.length = c) := by show _ = _; rw [hC]; simp
  have HCO : Hid (okB C) := fun y hy => by
    rw [hC] at hy
    obtain ⟨i, hi, rfl⟩ := List.mem_map.1 hy
    obtain ⟨V, -, hV⟩ := HNB2.out.ex
    obtain ⟨_, _, _, _, h3, h4, _⟩ := hV i (List.mem_range.1 hi)
    exact ⟨h3, h4⟩
  have HPS : Hid (∀ w', Grow w2 w' → Ps w' (.slice la c lc) C) := fun w' k => by rw [hC]; exact (HNB2.out.grow k).ps
  have HC := Hid.mk' hC
  clear hb2 hbut2 hg2 hg7 HNU1 HNB1 hC
  obtain ⟨n, hn⟩ : ∃ n, n = (P.counters + P.nodes).toNat := ⟨_, rfl⟩
  obtain ⟨TT, hTT⟩ : ∃ TT, TT = (List.range n).map (stN P.dig P.parN (ini C) n) := ⟨_, rfl⟩
  have hba := bld_all (n := n) (c := c) HPM.out (C := C) (by rw [HCL.out, HPC.out]) HCO.out hn HCL.out.symm
  rw [← hTT] at hba
  obtain ⟨R, hR⟩ : ∃ R, R = rootOf P C := ⟨_, rfl⟩
  have HRL : Hid (R.length = 32) := by show _ = _; rw [hR]; exact bd_len _ _
  obtain ⟨RN, hRN⟩ : ∃ RN, RN = (u8s R).toArray := ⟨_, rfl⟩
  have hdk : dkey R = .agg RN := by rw [hRN]; rfl
  obtain ⟨BL, hBL⟩ : ∃ BL, BL = bldL P.pages C P.levels := ⟨_, rfl⟩
  have HBLE : Hid (BL = TT.drop c ∧ R = bd (P.head - 1) (TT.getD (n - 1) [])) := by
    show _ ∧ _
    rw [hBL, hR]; exact hba
  have HTT := Hid.mk' hTT
  have HNN := Hid.mk' hn
  have HRN := Hid.mk' hRN
  have hcn : c < n := by have := HPC.out; have := HSZ.out; omega
  have hnb : n ≤ 100 := by
    have h3 := HPM.out.nd
    have h4 := HPM.out.sum
    have := HPC.out
    omega
  have HBD : Hid (∀ w' own lv, Grow w2 w' → (∀ b, own b ≠ .none → w2.heap.size ≤ b) → LgO w' own lv [] → Calls Tryd.prog 21 #[lv, pval P (.slice va ln vc), .slice la c lc] w' fun e w'' => ∃ v' L, e = .returned (.tuple #[v', .agg RN, .int .i64 0]) ∧ BRow w'' (fun j => w'.heap.size ≤ j) (fun j => w'.heap.size ≤ j) v' L ∧ L.map (·.2) = BL ∧ Grow w2 w'' ∧ But (fun b => own b ≠ .none) w' w'') := fun w' own lv k hown hlo => by
    have hgo : ∀ w'', But (fun b => own b ≠ .none) w' w'' → Grow w2 w'' := fun w'' k2 => k.then k2 (fun i hi e => absurd (hown i e) (by omega))
    have := build_any (pv := .slice va ln vc) (v := .slice la c lc) (C := C) hlo HPM.out HLV.out (fun w'' k2 => ⟨HK.out.but (HG2.out.trans (hgo w'' k2)) (fun h => h), HH.out.but (HG2.out.trans (hgo w'' k2)) (fun h => h), HPS.out w'' (hgo w'' k2)⟩) (by rw [HCL.out, HPC.out]) HCO.out (by decide)
    rw [← hR, hdk] at this
    refine this.mono ?_
    rintro e w'' ⟨v', rfl, hbt⟩
    obtain ⟨own', Q, L, -, -, -, -, -, hbr, hLe⟩ := hbt.ex
    exact ⟨v', L, rfl, hbr.but (But.refl (fun _ => False) w'') (fun _ _ h => h) (fun _ _ h => h) (fun j hj => hj.1) (fun j hj => hj.1), by rw [hLe, hBL], hgo w'' hbt.but, hbt.but⟩
  unfold pval at HBD
  obtain ⟨N, hN⟩ : ∃ N, N = (pcells P (.slice va ln vc)).toArray := ⟨_, rfl⟩
  rw [← hN] at HBD
  have HN := Hid.mk' hN
  have HLD : Hid (∀ w', Grow w2 w' → ∀ j v, (pcells P (.slice va ln vc))[j]? = some v → w'.cell? ((⟨g7, 0, none⟩ : Addr).add j) = some v) := fun w' k => (HBP.out.but k (fun h => h)).cells0
  clear hn hTT hba hR hRN hdk hBL hN
  refine region_inv (by kernel_rfl) (by kernel_rfl) (by kernel_rfl) (fun l a w' => ∃ (l0 l1 l2 l3 l4 l5 l6 l7 l8 l9 l10 l11 : Bool) (gl g : Nat) (nv y9 y10 y11 y26 y27 y28 y29 y30 y31 y32 y33 : Value), l = [l0, l1, l2, l3, l4, l5, l6, l7, l8, l9, l10, l11] ∧ a = ⟨#[.int .i64 a0, .slice fa fn fc, .int .i64 a2, undef, undef, undef, .bool false, .pointer (some ⟨g7, 0, none⟩), .slice la c lc, y9, y10, y11, undef, undef, undef, undef, undef, undef, undef, undef, .tuple #[pval P (.slice va ln vc), .slice la c lc], .int .i64 a0, .slice fa fn fc, .tuple #[pval P (.slice va ln vc), .slice la c lc], pval P (.slice va ln vc), .slice la c lc, y26, y27, y28, y29, y30, y31, y32, y33, undef, undef, undef, undef, undef, undef, undef, undef, undef, undef, undef, undef, undef, undef, undef, undef, undef, undef, undef, undef, undef, undef, undef, undef, undef, undef, undef, undef, undef, undef, undef, undef, undef, undef, undef, undef, undef, undef, undef, undef, undef, undef, undef, undef, undef, undef, undef, undef, undef, undef, undef, undef, undef, undef, undef, undef, undef, undef, undef, undef, undef, undef, undef, undef, undef, undef, undef, undef], []⟩ ∧ (l0 = true → y27 = .pointer (some ⟨gl, 0, none⟩)) ∧ (l1 = true → y28 = .agg N) ∧ (l2 = true → y29 = .slice la c lc) ∧ (l3 = true → y30 = .tuple #[nv, .agg RN, .int .i64 0]) ∧ (l4 = true → l3 = true ∧ y26 = .tuple #[nv, .agg RN, .int .i64 0]) ∧ (l5 = true → l3 = true ∧ y31 = nv) ∧ (l6 = true → y32 = .agg RN) ∧ (l7 = true → y33 = .int .i64 0) ∧ (l8 = true → y10 = .pointer (some ⟨g, 0, none⟩)) ∧ (l9 = true → l3 = true ∧ y9 = nv) ∧ (l11 = true → y11 = .int .i64 0) ∧ Bd2 w2 w' gl g nv BL Z R l0 l3 l8 l10) ?_ ?_ ?_
  · exact ⟨false, false, false, false, false, false, false, false, false, false, false, false, 0, 0, undef, undef, undef, undef, undef, undef, undef, undef, undef, undef, undef, undef, rfl, rfl, nofun, nofun, nofun, nofun, nofun, nofun, nofun, nofun, nofun, nofun, nofun, Bd2.start ((But.refl _ w2).drew)⟩
  · rintro l a w' i o ⟨l0, l1, l2, l3, l4, l5, l6, l7, l8, l9, l10, l11, gl, g, nv, y9, y10, y11, y26, y27, y28, y29, y30, y31, y32, y33, rfl, rfl, h0, h1, h2, h3, h4, h5, h6, h7, h8, h9, h11, hb⟩ hf hd hi ho
    match i, hi with
    | 0, _ =>
      obtain rfl := Option.some.inj ho
      obtain rfl : l0 = false := by simpa using hf
      refine op_call 10 [] _ #[] rfl rfl (callableGN _ _) ((new_any (w := w') (fun _ => .none) (fun _ _ => rfl)).mono ?_)
      rintro e w5 ⟨gl', rfl, hgl, hg, hlg⟩
      exact ⟨_, rfl, ⟨true, l1, l2, l3, l4, l5, l6, l7, l8, l9, l10, l11, gl', g, nv, _, _, _, _, _, _, _, _, _, _, _, rfl, rfl, fun _ => rfl, h1, h2, h3, h4, h5, h6, h7, h8, h9, h11, hb.new hgl hg hlg⟩⟩
    | 1, _ =>
      obtain rfl := Option.some.inj ho
      refine op_value (.agg N) (by rw [HN.out]; exact exec_ldF Tryd.underlying44 rfl iPl (HLD.out w' hb.gr) rfl rfl) ?_
      exact ⟨l0, true, l2, l3, l4, l5, l6, l7, l8, l9, l10, l11, gl, g, nv, _, _, _, _, _, _, _, _, _, _, _, rfl, rfl, h0, fun _ => rfl, h2, h3, h4, h5, h6, h7, h8, h9, h11, hb⟩
    | 2, _ =>
      obtain rfl := Option.some.inj ho
      refine op_value (.slice la c lc) (w' := w') rfl ?_
      exact ⟨l0, l1, true, l3, l4, l5, l6, l7, l8, l9, l10, l11, gl, g, nv, _, _, _, _, _, _, _, _, _, _, _, rfl, rfl, h0, h1, fun _ => rfl, h3, h4, h5, h6, h7, h8, h9, h11, hb⟩
    | 3, _ =>
      obtain rfl := Option.some.inj ho
      obtain rfl : l3 = false := by simpa using hf
      obtain ⟨rfl, rfl, rfl⟩ : l0 = true ∧ l1 = true ∧ l2 = true := by simp [Region.binds, show (Mode.any == Mode.text) = false from rfl, show (Mode.any == Mode.gc) = false from rfl] at hd; simp [hd]
      obtain rfl := h0 rfl
      obtain rfl := h1 rfl
      obtain rfl := h2 rfl
      refine op_call 21 [_, _, _] _ #[.pointer (some ⟨gl, 0, none⟩), .agg N, .slice la c lc] rfl rfl (callableTB _ _) ((HBD.out w' _ _ hb.gr (hb.own rfl) (.inr ⟨gl, rfl, (hb.lg rfl).2.2 rfl⟩)).mono ?_)
      rintro e w5 ⟨v', L, rfl, q1, q2, q3, q4⟩
      exact ⟨_, rfl, ⟨true, true, true, true, l4, l5, l6, l7, l8, l9, l10, l11, gl, g, v', _, _, _, _, _, _, _, _, _, _, _, rfl, rfl, h0, h1, h2, fun _ => rfl, fun h => absurd (h4 h).1 (by simp), fun h => absurd (h5 h).1 (by simp), h6, h7, h8, fun h => absurd (h9 h).1 (by simp), h11, hb.bld q1 q2 q3 q4⟩⟩
    | 4, _ =>
      obtain rfl := Option.some.inj ho
      have e3 : l3 = true := by simp [Region.binds, show (Mode.any == Mode.text) = false from rfl, show (Mode.any == Mode.gc) = false from rfl] at hd; simp [hd]
      subst e3
      obtain rfl := h3 rfl
      refine op_value (.tuple #[nv, .agg RN, .int .i64 0]) (w' := w') rfl ?_
      exact ⟨l0, l1, l2, true, true, l5, l6, l7, l8, l9, l10, l11, gl, g, nv, _, _, _, _, _, _, _, _, _, _, _, rfl, rfl, h0, h1, h2, h3, fun _ => ⟨rfl, rfl⟩, h5, h6, h7, h8, h9, h11, hb⟩
    | 5, _ =>
      obtain rfl := Option.some.inj ho
      have e4 : l4 = true := by simp [Region.binds, show (Mode.any == Mode.text) = false from rfl, show (Mode.any == Mode.gc) = false from rfl] at hd; simp [hd]
      subst e4
      obtain ⟨rfl, rfl⟩ := h4 rfl
      refine op_value nv (w' := w') rfl ?_
      exact ⟨l0, l1, l2, true, true, true, l6, l7, l8, l9, l10, l11, gl, g, nv, _, _, _, _, _, _, _, _, _, _, _, rfl, rfl, h0, h1, h2, h3, h4, fun _ => ⟨rfl, rfl⟩, h6, h7, h8, h9, h11, hb⟩
    | 6, _ =>
      obtain rfl := Option.some.inj ho
      have e4 : l4 = true := by simp [Region.binds, show (Mode.any == Mode.text) = false from rfl, show (Mode.any == Mode.gc) = false from rfl] at hd; simp [hd]
      subst e4
      obtain ⟨rfl, rfl⟩ := h4 rfl
      refine op_value (.agg RN) (w' := w') rfl ?_
      exact ⟨l0, l1, l2, true, true, l5, true, l7, l8, l9, l10, l11, gl, g, nv, _, _, _, _, _, _, _, _, _, _, _, rfl, rfl, h0, h1, h2, h3, h4, h5, fun _ => rfl, h7, h8, h9, h11, hb⟩
    | 7, _ =>
      obtain rfl := Option.some.inj ho
      have e4 : l4 = true := by simp [Region.binds, show (Mode.any == Mode.text) = false from rfl, show (Mode.any == Mode.gc) = false from rfl] at hd; simp [hd]
      subst e4
      obtain ⟨rfl, rfl⟩ := h4 rfl
      refine op_value (.int .i64 0) (w' := w') rfl ?_
      exact ⟨l0, l1, l2, true, true, l5, l6, true, l8, l9, l10, l11, gl, g, nv, _, _, _, _, _, _, _, _, _, _, _, rfl, rfl, h0, h1, h2, h3, h4, h5, h6, fun _ => rfl, h8, h9, h11, hb⟩
    | 8, _ =>
      obtain rfl := Option.some.inj ho
      obtain rfl : l8 = false := by simpa using hf
      obtain rfl : l10 = false := by cases l10; rfl; exact absurd (hb.i10 rfl).1 (by simp)
      refine op_alloc 26 Z.toArray rfl (HZZ.out _) ?_
      exact ⟨l0, l1, l2, l3, l4, l5, l6, l7, true, l9, false, l11, gl, _, nv, _, _, _, _, _, _, _, _, _, _, _, rfl, rfl, h0, h1, h2, h3, h4, h5, h6, h7, fun _ => rfl, h9, h11, hb.var⟩
    | 9, _ =>
      obtain rfl := Option.some.inj ho
      obtain ⟨rfl, rfl⟩ : l5 = true ∧ l8 = true := by simp [Region.binds, show (Mode.any == Mode.text) = false from rfl, show (Mode.any == Mode.gc) = false from rfl] at hd; simp [hd]
      obtain ⟨rfl, rfl⟩ := h5 rfl
      refine op_value y31 (w' := w') rfl ?_
      exact ⟨l0, l1, l2, true, l4, true, l6, l7, true, true, l10, l11, gl, g, _, _, _, _, _, _, _, _, _, _, _, _, rfl, rfl, h0, h1, h2, h3, h4, fun _ => ⟨rfl, rfl⟩, h6, h7, h8, fun _ => ⟨rfl, rfl⟩, h11, hb⟩
    | 10, _ =>
      obtain rfl := Option.some.inj ho
      obtain ⟨rfl, rfl, rfl⟩ : l8 = true ∧ l6 = true ∧ l9 = true := by simp [Region.binds, show (Mode.any == Mode.text) = false from rfl, show (Mode.any == Mode.gc) = false from rfl] at hd; simp [hd]
      obtain rfl := h8 rfl
      obtain rfl := h6 rfl
      obtain ⟨rfl, rfl⟩ := h9 rfl
      refine op_store_u8s i32 _ _ rfl g R HRL.out rfl (by rw [HRN.out]; rfl) (if l10 = true then u8s R else Z) (by split; simp [u8s, HRL.out]; exact HZL.out) (hb.rt rfl).2.2.2 ?_
      intro w5 hb5 hbut5
      exact ⟨l0, l1, l2, true, l4, l5, true, l7, true, true, true, l11, gl, g, _, _, _, _, _, _, _, _, _, _, _, _, rfl, rfl, h0, h1, h2, h3, h4, h5, fun _ => rfl, h7, fun _ => rfl, fun _ => ⟨rfl, rfl⟩, h11, hb.put hb5 hbut5⟩
    | 11, _ =>
      obtain rfl := Option.some.inj ho
      have e7 : l7 = true := by simp [Region.binds, show (Mode.any == Mode.text) = false from rfl, show (Mode.any == Mode.gc) = false from rfl] at hd; simp [hd]
      subst e7
      obtain rfl := h7 rfl
      refine op_value (.int .i64 0) (w' := w') rfl ?_
      exact ⟨l0, l1, l2, l3, l4, l5, l6, true, l8, l9, l10, true, gl, g, nv, _, _, _, _, _, _, _, _, _, _, _, rfl, rfl, h0, h1, h2, h3, h4, h5, h6, fun _ => rfl, h8, h9, fun _ => rfl, hb⟩
    | n + 12, h => exact absurd h (by simp)
  rintro a w3 ⟨l0, l1, l2, l3, l4, l5, l6, l7, l8, l9, l10, l11, gl, g10, nv, y9, y10, y11, y26, y27, y28, y29, y30, y31, y32, y33, hl, rfl, h0, h1, h2, h3, h4, h5, h6, h7, h8, h9, h11, hb⟩
  obtain ⟨rfl, rfl, rfl, rfl, rfl, rfl, rfl, rfl, rfl, rfl, rfl, rfl⟩ : l0 = true ∧ l1 = true ∧ l2 = true ∧ l3 = true ∧ l4 = true ∧ l5 = true ∧ l6 = true ∧ l7 = true ∧ l8 = true ∧ l9 = true ∧ l10 = true ∧ l11 = true := by simpa [List.replicate, eq_comm] using hl
  obtain rfl := h0 rfl
  obtain rfl := h1 rfl
  obtain rfl := h2 rfl
  obtain rfl := h3 rfl
  obtain ⟨-, rfl⟩ := h4 rfl
  obtain rfl := h6 rfl
  obtain rfl := h7 rfl
  obtain rfl := h8 rfl
  obtain ⟨-, hy31⟩ := h5 rfl
  obtain ⟨-, hy9⟩ := h9 rfl
  obtain rfl := h11 rfl
  subst y31
  subst y9
  clear hl h0 h1 h2 h3 h4 h5 h6 h7 h8 h9 h11
  obtain ⟨L, hbr, hLe⟩ := hb.nd rfl
  obtain ⟨hg10, -, -, hb10⟩ := hb.rt rfl
  rw [if_pos rfl] at hb10
  have hbr := hbr.but (But.refl (fun _ => False) w3) (fun _ _ h => h) (fun _ _ h => h) (fun j hj => hj.2 rfl) (fun j hj => hj.2 rfl)
  have hg3 := hb.gr
  have hgl2 := (hb.lg rfl).1
  clear hb
  have HB10 := Hid.mk' hb10
  have HBR := Hid.mk' hbr
  have HLE := Hid.mk' hLe
  have HG3 := Hid.mk' hg3
  clear hb10 hbr hLe hg3 HBD hg10 hgl2
  have HAL : Hid (Calls Tryd.prog 22 #[pval P (.slice va ln vc), .slice la c lc] w3 fun e w' => ∃ v' G, e = .returned v' ∧ Nb w3.heap.size w' v' n G (stN P.dig P.parN (ini C) n) ∧ Grow w3 w') := by
    have := rall_any (pv := .slice va ln vc) HPM.out (HNU2.out.grow HG3.out) (HPS.out w3 HG3.out) (by rw [HCL.out, HPC.out]) HCO.out
    rw [← HNN.out] at this
    exact this
  have HLD3 := Hid.mk' (HLD.out w3 HG3.out)
  go_wp2_with (first
    | (refine wpList_load_cells rfl _ _ rfl ⟨g7, 0, none⟩ rfl (pcells P (.slice va ln vc)) _ HLD3.out Tryd.underlying44 rfl iPl ?_)
    | fail)
  refine Calls.mono HAL.out ?_
  rintro e w4 ⟨v4, G4, rfl, hnb4, hg4⟩
  have hps4 := hnb4.ps
  rw [← HTT.out] at hps4
  have HTL : Hid (TT.length = n) := by show _ = _; rw [HTT.out]; simp
  have hlen : ∀ x ∈ TT, x.length ≤ 300 := fun x hx => by
    rw [HTT.out] at hx
    obtain ⟨i, hi, rfl⟩ := List.mem_map.1 hx
    obtain ⟨V, -, hV⟩ := hnb4.ex
    obtain ⟨_, _, _, _, h3, _⟩ := hV i (List.mem_range.1 hi)
    omega
  have hcap : ∃ a c4, v4 = .slice a n c4 ∧ n ≤ c4 := by
    obtain ⟨V, hb⟩ := hnb4.brow (F := fun _ => True) (fun _ _ _ => trivial)
    have hr := hb.row
    rw [show (List.map (fun i => (V i, stN P.dig P.parN (ini C) n i)) (List.range n)).length = n by simp] at hr
    obtain ⟨ao, c4, rfl, h2⟩ := hr.shape
    obtain ⟨g, rfl, _⟩ := h2 (by omega)
    exact ⟨_, c4, rfl, hr.cap.1⟩
  obtain ⟨aa, ac, hv4, hac⟩ := hcap
  subst hv4
  obtain ⟨aa', ac', he4, hp4⟩ := hps4.gen
  simp only [Value.slice.injEq] at he4
  obtain ⟨rfl, -, rfl⟩ := he4
  obtain ⟨ab, ao, rfl, -, -⟩ := hp4 (by have := HTL.out; omega)
  obtain ⟨A, c5, hsl, hA⟩ := slice_fromT (b := ab) (off := ao) (n := n) (cap := ac) (k := c) (by omega) hac
  have HSL := Hid.mk' hsl
  have HG4 := Hid.mk' (HG3.out.trans hg4)
  have HB4 := Hid.mk' (HB10.out.but hg4 (fun h => h))
  have HPA : Hid (∀ w', Grow w4 w' → Ps w' (.slice (some ⟨ab, ao, none⟩) n ac) TT) := fun w' k => hps4.below k
  have HPN : Hid (∀ w', Grow w4 w' → Ps w' nv BL) := fun w' k => by
    have := HBR.out.ps
    rw [HLE.out] at this
    exact this.below (hg4.trans k)
  have HSA : Hid (∀ w', Grow w4 w' → Calls Tryd.prog 23 #[nv, .slice (some A) (n - c) c5] w' fun e w'' => e = .returned (.bool true) ∧ Grow w' w'') := fun w' k => by
    have h1 := HPA.out w' k
    have h2 := h1.drop hcn (hA hcn) c5
    have := sameall_any (HPN.out w' k) h2 (by rw [HBLE.out.1]; simp; have := HTL.out; omega) (by simp; have := HTL.out; omega)
    rw [HBLE.out.1] at this
    simpa using this
  have HRT : Hid (∀ w', Grow w4 w' → Calls Tryd.prog 24 #[.agg N, .slice (some ⟨ab, ao, none⟩) n ac] w' fun e w'' => e = .returned (.agg RN) ∧ Grow w' w'') := fun w' k => by
    have := rroot_any (p := P) (pv := .slice va ln vc) (HPA.out w' k) (by have := HTL.out; omega) (by have := HTL.out; omega) hlen ⟨HSZ.out.1, HSZ.out.2.1⟩
    rw [HTL.out, ← HBLE.out.2] at this
    rw [HN.out, HRN.out]
    exact this
  have HEQ : Hid (∀ w', (Op.equalIn 10000 26 (.agg RN) (.agg RN)).run Tryd.prog w' = .ok true w') := fun w' => by
    rw [HRN.out]; exact equal_same R HRL.out w'
  have HCC : Hid (∀ w', Grow w4 w' → w'.cell? ⟨g7, 2, none⟩ = some (.int .i64 (c : Int))) := fun w' k => by
    have := HLD.out w' (HG4.out.trans k) 2 (.int .i64 P.counters) rfl
    rw [addr_add, Nat.zero_add, HPC.out] at this
    exact this
  have HLD4 : Hid (∀ w', Grow w4 w' → ∀ j v, (pcells P (.slice va ln vc))[j]? = some v → w'.cell? ((⟨g7, 0, none⟩ : Addr).add j) = some v) := fun w' k => HLD.out w' (HG4.out.trans k)
  clear hnb4 hps4 hlen hp4 hsl hA hg4 HAL HLD3 hac
  go_upto_region 4 with fail
  refine region_chain [] [0, 1, 2, 3, 4, 5, 6, 7, 8, 9, 10, 11, 12, 13, 14, 15, 16, 17] (Grow w4) (Grow w4) (by kernel_rfl) (by kernel_rfl) (fun _ _ h k => h.trans k) (fun _ h => h) ((But.refl _ w4).drew) ?_
  intro ι hne X hX
  have cc : ∀ z, (X z).cell? ⟨g7, 2, none⟩ = some (.int .i64 (c : Int)) := fun z => HCC.out (X z) (hX z)
  iterate 7 (refine still_step rfl (fun K hK => ?_); go_simp; refine hK _ ?_; clear hK K)
  refine still_val rfl (.slice (some A) (n - c) c5) rfl (fun z => exec_slc rfl rfl rfl rfl (HSL.out (X z))) ?_
  intro K hK; go_simp; refine hK _ ?_; clear hK K
  refine still_call rfl (.bool true) 23 #[nv, .slice (some A) (n - c) c5] rfl (fun _ => by kernel_rfl) (fun z => HSA.out (X z) (hX z)) ?_
  intro K hK; go_simp; refine hK _ ?_; clear hK K
  iterate 3 (refine still_step rfl (fun K hK => ?_); go_simp; refine hK _ ?_; clear hK K)
  refine still_val rfl (.agg RN) rfl (fun z => by rw [HRN.out]; exact run_load_arr ukt i32 (HB4.out.but (hX z) (fun h => h)).cells0 HRL.out rfl rfl) ?_
  intro K hK; go_simp; refine hK _ ?_; clear hK K
  refine still_val rfl (.agg N) rfl (fun z => by rw [HN.out]; exact exec_ldF Tryd.underlying44 rfl iPl (HLD4.out (X z) (hX z)) rfl rfl) ?_
  intro K hK; go_simp; refine hK _ ?_; clear hK K
  iterate 1 (refine still_step rfl (fun K hK => ?_); go_simp; refine hK _ ?_; clear hK K)
  refine still_call rfl (.agg RN) 24 #[.agg N, .slice (some ⟨ab, ao, none⟩) n ac] rfl (fun _ => by kernel_rfl) (fun z => HRT.out (X z) (hX z)) ?_
  intro K hK; go_simp; refine hK _ ?_; clear hK K
  refine still_val rfl (.bool false) rfl (fun z => exec_bin3 rfl rfl rfl (by kernel_rfl) (HEQ.out (X z)) rfl) ?_
  intro K hK; go_simp; refine hK _ ?_; clear hK K
  iterate 1 (refine still_step rfl (fun K hK => ?_); go_simp; refine hK _ ?_; clear hK K)
  refine still_nil ?_
  clear hX hne cc
  intro w5 hw5
  have HG5 := Hid.mk' (HG4.out.trans hw5)
  clear hw5 HSA HRT HPA HPN HSL HLD4 HCC HB4 HBR HB10
  have hpk := fun w' => pick_any a2 c w' (by omega) (by omega)
  obtain ⟨k, hk, hkc⟩ : ∃ k : Nat, a2 % (c : Int) = (k : Int) ∧ k < c := ⟨(a2 % (c : Int)).toNat, by have := Int.emod_nonneg a2 (b := (c : Int)) (by omega); omega, by have := Int.emod_lt_of_pos a2 (b := (c : Int)) (by omega); have := Int.emod_nonneg a2 (b := (c : Int)) (by omega); omega⟩
  rw [hk] at hpk
  have HPK := Hid.mk' hpk
  clear hpk hk
  go_wp2_with fail
  refine Calls.mono (HPK.out w5) ?_
  rintro e w6 ⟨rfl, hw6⟩
  subst w6
  have hnb5 := HNB2.out.grow HG5.out
  obtain ⟨lb, rc, ucap, M, hv, hrc, hcl, h256, hM, hiM, hlb, hTk, hps⟩ := nb_short hnb5 hkc
  simp only [Value.slice.injEq] at hv
  obtain ⟨rfl, -, rfl⟩ := hv
  have HM := Hid.mk' hM
  have HIM := Hid.mk' hiM
  have HRC : Hid (c ≤ lc) := hrc
  have HLB := Hid.mk' hlb
  have HTK := Hid.mk' hTk
  have HPSH := Hid.mk' hps
  have hkc' : (k : Int) < (c : Int) := by omega
  have HHI := Hid.mk' (fun w' => slice_hiT (b := G k) (so := 0) (m := 256) (cap := ucap) (n := 255) (by omega) w')
  clear hnb5 hM hiM hrc hlb hTk hps HPK
  go_upto_region 8 with (first
    | (refine wpList_runH rfl (exec_slc rfl rfl rfl rfl (HHI.out w5)) ?_)
    | (refine wpList_store1 (g := lb) (i := k) (v := .slice (some ⟨G k, 0, none⟩) 255 ucap) rfl iSlB rfl rfl rfl rfl HM.out HIM.out ?_; intro w6 hb6 hbut6)
    | fail)
  have hne7 : g7 ≠ lb := fun e => by
    have h1 := HBP.out.but HG5.out (fun h => h)
    have h2 := HM.out
    rw [e] at h1
    unfold Blk at h1 h2
    rw [h1] at h2
    simp at h2
  have hg6 : Grow w w6 := (HG2.out.trans HG5.out).then hbut6 (fun i hi e => by have := HLB.out; omega)
  have HG6 := Hid.mk' hg6
  have HBP6 := Hid.mk' ((HBP.out.but HG5.out (fun h => h)).but hbut6 (fun e => hne7 e))
  have hps6 := HPSH.out w6 hb6 hbut6
  rw [← HC.out] at hps6
  obtain ⟨C', hC'⟩ : ∃ C', C' = C.set k ((T k).take 255) := ⟨_, rfl⟩
  have HCL' : Hid (C'.length = c) := by show _ = _; rw [hC', List.length_set, HCL.out]
  have HWH : Hid (whl C' = false) := by
    show _ = _
    rw [hC']
    exact whl_short (by rw [HCL.out]; exact hkc) (by rw [List.length_take, HTK.out]; decide)
  rw [← hC'] at hps6
  have HPS6 : Hid (∀ w', Grow w6 w' → Ps w' (.slice (some ⟨lb, 0, none⟩) c lc) C') := fun w' k => hps6.below k
  have HBF : Hid (Calls Tryd.prog 21 #[.pointer none, pval P (.slice va ln vc), .slice (some ⟨lb, 0, none⟩) c lc] w6 fun e w' => e = .returned (.tuple #[.slice none 0 0, dkey z32, .int .i64 3]) ∧ Grow w6 w') :=
    build_form hps6 (by rw [HCL'.out, HPC.out]) (by rw [HCL'.out]; omega) HWH.out (by rw [HCL'.out]; omega)
  clear hb6 hbut6 hg6 hps6 hC' HPSH HHI HM HIM hcl
  have HLD6 := Hid.mk' HBP6.out.cells0
  go_wp2_with (first
    | (refine wpList_load_cells rfl _ _ rfl ⟨g7, 0, none⟩ rfl (pcells P (.slice va ln vc)) _ HLD6.out Tryd.underlying44 rfl iPl ?_)
    | fail)
  refine Calls.mono HBF.out ?_
  rintro e w7 ⟨rfl, hg7⟩
  obtain ⟨Y, hY⟩ : ∃ Y, Y = dkey z32 := ⟨_, rfl⟩
  have HY := Hid.mk' hY
  have HZ3 : Hid (z32.length = 32) := rfl
  obtain ⟨gf, hgf⟩ : ∃ g, g = w7.heap.size := ⟨_, rfl⟩
  have HBZ7 : Hid (Blk (w7.alloc (.cells Z.toArray 26)) w7.heap.size 26 Z) := Blk.new rfl
  rw [← hY]
  clear hY
  go_upto_region 9 with (first
    | (refine wpList_store_u8s i32 rfl _ _ rfl w7.heap.size z32 HZ3.out rfl (by rw [show a.eval _ = Y from rfl, HY.out]; rfl) Z HZL.out HBZ7.out ?_; intro w8 hb8 hbut8)
    | (refine wpList_store_u8s i32 rfl _ _ rfl w7.heap.size z32 HZ3.out rfl (by exact HY.out) Z HZL.out HBZ7.out ?_; intro w8 hb8 hbut8)
    | fail)
  have hg8 : Grow w7 w8 := ((But.refl _ w7).alloc _).then hbut8 (fun i hi e => by omega)
  rw [← hgf] at hb8 ⊢
  have HB8 := Hid.mk' hb8
  have HG68 := Hid.mk' (hg7.trans hg8)
  have HG8 := Hid.mk' (HG6.out.trans (hg7.trans hg8))
  have HY2 : Hid (Y = .agg (u8s z32).toArray) := by show _ = _; rw [HY.out]; rfl
  have HLD8 : Hid (∀ w', Grow w8 w' → ∀ j v, (pcells P (.slice va ln vc))[j]? = some v → w'.cell? ((⟨g7, 0, none⟩ : Addr).add j) = some v) := fun w' k => (HBP6.out.but (HG68.out.trans k) (fun h => h)).cells0
  have HSP := Hid.mk' (fun w' => slice_hiP (b := lb) (so := 0) (m := c) (cap := lc) (n := k) (by have := HRC.out; omega) w')
  have HBN : Hid (∀ w', Grow w8 w' → Calls Tryd.prog 21 #[.pointer none, .agg N, .slice (some ⟨lb, 0, none⟩) k lc] w' fun e w'' => e = .returned (.tuple #[.slice none 0 0, Y, .int .i64 1]) ∧ Grow w' w'') := fun w' kk => by
    have h1 := (HPS6.out w' (HG68.out.trans kk)).take (k := k) (c' := lc) (by omega)
    rw [HN.out, HY.out]
    exact build_no h1 (.inr (by rw [List.length_take, HCL'.out, HPC.out]; omega)) (by rw [List.length_take, HCL'.out]; omega)
  clear hb8 hbut8 hg8 hg7 hgf HBZ7 HLD6 HBF
  refine region_chain [([0, 1, 2, 3, 4, 5, 6, 7, 8], 9), ([10], 11)] [12] (Grow w8) (Grow w8) (by kernel_rfl) (by kernel_rfl) (fun _ _ h k => h.trans k) (fun _ h => h) ((But.refl _ w8).drew) ?_
  intro ι hne X hX
  refine still_val rfl (.agg N) rfl (fun z => by rw [HN.out]; exact exec_ldF Tryd.underlying44 rfl iPl (HLD8.out (X z) (hX z)) rfl rfl) ?_
  intro K hK; go_simp; refine hK _ ?_; clear hK K
  iterate 2 (refine still_step rfl (fun K hK => ?_); go_simp; refine hK _ ?_; clear hK K)
  refine still_val rfl (.slice (some ⟨lb, 0, none⟩) k lc) rfl (fun z => exec_slc rfl rfl rfl rfl (HSP.out (X z))) ?_
  intro K hK; go_simp; refine hK _ ?_; clear hK K
  refine still_call rfl (.tuple #[.slice none 0 0, Y, .int .i64 1]) 21 #[.pointer none, .agg N, .slice (some ⟨lb, 0, none⟩) k lc] rfl (fun _ => by kernel_rfl) (fun z => HBN.out (X z) (hX z)) ?_
  intro K hK; go_simp; refine hK _ ?_; clear hK K
  iterate 4 (refine still_step rfl (fun K hK => ?_); go_simp; refine hK _ ?_; clear hK K)
  refine still_nil ?_
  clear hX hne
  refine turn_run rfl rfl (fun u w' => ∃ g, u = .pointer (some ⟨g, 0, none⟩) ∧ w8.heap.size ≤ g ∧ Blk w' g 26 Z ∧ Grow w8 w') (fun _ w' => Grow w8 w') (fun _ w1 w2 h k => by
    obtain ⟨g, h1, h2, h3, h4⟩ := h
    exact ⟨g, h1, h2, h3.but k (fun h => h), h4.trans k⟩) (fun _ _ h => by obtain ⟨_, _, _, _, h4⟩ := h; exact h4) (.inr (fun _ _ h => h)) ?_ ?_
  · intro w9 hw9
    exact ⟨_, _, .inl (exec_allocF rfl (HZZ.out w9)), w9.heap.size, rfl, hw9.size, Blk.new rfl, hw9.alloc _⟩
  rintro u ⟨wq, gn, rfl, hgn, -, -⟩ U hU
  go_simp
  refine hU _ ?_
  clear hU U
  intro ι hne X hX
  refine still_step rfl (fun K hK => ?_); go_simp; refine hK _ ?_; clear hK K
  refine still_nil ?_
  clear hX hne
  refine turn_run rfl rfl (fun _ w' => Grow w8 w') (fun _ w' => Grow w8 w') (fun _ w1 w2 h k => h.trans k) (fun _ _ h => h) (.inr (fun _ _ h => h)) ?_ ?_
  · rintro w9 ⟨g, e, h2, h3, h4⟩
    have e2 : gn = g := by simpa using e
    subst e2
    exact turn_storeA (D := z32) (L := Z) (v := Y) i32 rfl rfl rfl HY2.out HZ3.out HZL.out h3 (fun w10 hb10 hk10 => h4.then hk10 (fun i hi e => by omega))
  rintro z - U hU
  go_simp
  refine hU _ ?_
  clear hU U
  intro ι hne X hX
  refine still_step rfl (fun K hK => ?_); go_simp; refine hK _ ?_; clear hK K
  refine still_nil ?_
  clear hX hne
  intro w9 hw9
  have HB9 := Hid.mk' (HB8.out.but hw9 (fun h => h))
  have HG9 := Hid.mk' (HG8.out.trans hw9)
  obtain ⟨ZN, hZN⟩ : ∃ ZN, ZN = (u8s z32).toArray := ⟨_, rfl⟩
  have HZN := Hid.mk' hZN
  have HEQZ : Hid (∀ w', (Op.equalIn 10000 26 (.agg ZN) (.agg ZN)).run Tryd.prog w' = .ok true w') := fun w' => by
    rw [HZN.out]; exact equal_same z32 HZ3.out w'
  clear hZN hw9 hgn HBN HSP HLD8
  go_wp2_with (first
    | (refine wpList_runG (w' := w9) (v := .agg ZN) rfl (by rw [HZN.out]; exact run_load_arr ukt i32 HB9.out.cells0 HZ3.out rfl rfl) ?_)
    | (refine wpList_runG (w' := w9) (v := .agg ZN) rfl (by rw [HZN.out]; exact exec_bz rfl) ?_)
    | (refine wpList_runG rfl (exec_eqT rfl rfl rfl (by kernel_rfl) (HEQZ.out _)) ?_)
    | fail)
  refine Calls.mono (HAW.out w9 HG9.out) ?_
  rintro e w10 ⟨rfl, hg10'⟩
  have HG10 := Hid.mk' (HG9.out.trans hg10')
  clear hg10'
  go_wp2
  go_ret
  exact ⟨rfl, HG10.out.below (Nat.le_refl _) (fun _ _ h => h)⟩
end Go.Proofs.YtbidllclcedjbaaDoor
