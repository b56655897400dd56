/- PickAny, PlAwake, PlLevel, PlFirst, PlRPar, PlAgree, PlRPath, TrBuilt, TrBuilz, TrExp, PlEq, TrChk, TrChl, TrChm. -/
import Derived.Test.YtmlladpmecclbaaDoorAllA
import Derived.Test.YtmlladpmecclbaaDoorAllC
import Derived.Laws.StructEq
/- The reference's Pick: what is left of a number, for any divisor. -/
namespace Go.Proofs.YtmlladpmecclbaaDoor
open Go.RowKit

theorem pick_any (x n : Int) (w : World) (h0 : 0 < n) (h1 : n ≤ 1000000000) :
    Calls Tryd.prog 9 #[.int .i64 x, .int .i64 n] w fun e w' => e = .returned (.int .i64 (x % n)) ∧ w' = w := by
  have ht1 : x.tmod n < n := Int.tmod_lt_of_pos x h0
  have ht2 : -n < x.tmod n := by
    have := Int.lt_tmod_of_pos x h0
    omega
  obtain ⟨m, hm⟩ : ∃ m, x.tmod n = m := ⟨_, rfl⟩
  have hem : x % n = if m < 0 then m + n else m := by
    rw [← hm, Int.tmod_eq_emod]
    have h5 := Int.emod_nonneg x (b := n) (by omega)
    have h6 := Int.emod_lt_of_pos x h0
    split
    · rw [if_neg (by omega)]; omega
    · split <;> omega
  rw [hm] at ht1 ht2
  have HEM := Hid.mk' hem
  have hn0 : ¬ n = 0 := by omega
  clear hem
  have hw : IntKind.i64.wrap m = m := by simp [IntKind.wrap, IntKind.bits, IntKind.signed]; omega
  by_cases hneg : m < 0
  · go_enter Tryd.func9, Tryd.ntmps9
    go_wp2
    go_ret
    refine ⟨?_, rfl⟩
    rw [HEM.out, if_pos hneg]; rfl
  · go_enter Tryd.func9, Tryd.ntmps9
    go_wp2
    go_ret
    refine ⟨?_, rfl⟩
    rw [HEM.out, if_neg (by omega)]; rfl
end Go.Proofs.YtmlladpmecclbaaDoor
/- The document's example for plan; a plan of numbers brought right. -/
namespace Go.Proofs.YtmlladpmecclbaaDoor
open Go.RowKit

theorem ex_levels : (plan 20 4).levels = [1] := by decide +kernel
theorem ex_plan : plan 20 4 = ⟨20, 4, 2, [1], 1, 23, 1, 24, 28, 32⟩ := by
  have e2 : bg 20 16 = 2 := by decide +kernel
  have e3 : bg (12 + 4 * 4) 256 = 1 := by decide +kernel
  unfold plan
  simp only [e2, e3]
  rfl
theorem ex_path : (plan 20 4).path 17 = [21, 22] := by rw [ex_plan]; decide +kernel
theorem ex_need : ([0, 1, 17].foldl (addP (plan 20 4)) []).length = 6 := by rw [ex_plan]; decide +kernel
theorem ex_has : (plan 20 4).has 17 = true := by rw [ex_plan]; decide +kernel
theorem Own.blk {w w' : World} {v : Value} {ks : List Int} (h : Own w w' v ks) : ∀ b, v.ownBlock = some b → b < w'.heap.size := fun b hb => (World.ownsRow.lt h.row b hb).2
/-- A plan of the program's in memory: its levels are there. -/
structure Pm (w : World) (n b : Nat) (v : Value) : Prop where
  nums : Nums w v (plan n b).levels
  len : (plan n b).levels.length ≤ 3
theorem plan_lv {n b : Nat} (h1 : 1 ≤ n) (h2 : n ≤ 4096) : (plan n b).levels.length ≤ 3 ∧ ∀ x ∈ (plan n b).levels, -9223372036854775808 ≤ x ∧ x ≤ 9223372036854775807 := by
  have h := lvs_le (c := bg n 16) (by unfold bg; omega) (by unfold bg; omega)
  show (toI (lvs (bg n 16))).length ≤ 3 ∧ ∀ x ∈ toI (lvs (bg n 16)), _
  exact ⟨by rw [toI_len]; exact h.1, toI_i64 (fun x hx => by have := (h.2.2.2 x hx).2; omega)⟩
theorem Pm.of {w w' : World} {n b : Nat} {v : Value} (h1 : 1 ≤ n) (h2 : n ≤ 4096) (h : Own w w' v (plan n b).levels) : Pm w' n b v := by
  have hl := plan_lv (b := b) h1 h2
  exact ⟨h.nums hl.2 (by have := hl.1; omega), hl.1⟩
theorem Pm.grow {w w' : World} {n b : Nat} {v : Value} (h : Pm w n b v) (k : Grow w w') : Pm w' n b v := ⟨h.nums.grow k, h.len⟩
theorem wpList_runG {ops : Array Oper} {rest : List Oper} {o : Oper} {a : Act} {w w' : World} {Q : Exit → Act → World → Prop} {v : Value} (hw : Region.wanted o (yielded ops a.tmps) = true) (hr : (execOp a.eval o).run Tryd.prog w = .ok (.value v) w') (h : wpList Tryd.prog ops Q rest (a.put o.dst v) w') : wpList Tryd.prog ops Q (o :: rest) a w :=
  wpList_want hw fun _ hK => by
    unfold Oper.wp
    rw [hr]
    exact hK _ _ h
/-- A variable for a plan is made. -/
theorem var_new (w : World) : Blk (w.alloc (.cells (pcells Pn.zero noS).toArray 25)) w.heap.size 25 ([] ++ pcells Pn.zero noS ++ []) := by
  rw [List.nil_append, List.append_nil]; exact Blk.new rfl
theorem var_grow {w w2 : World} (k : But (· = w.heap.size) (w.alloc (.cells (pcells Pn.zero noS).toArray 25)) w2) : Grow w w2 :=
  ((But.refl (fun _ => False) w).alloc _).then k (fun j hj e => by omega)
theorem Blk.pl {w : World} {g : Nat} {T : TypeId} {L : List Value} (h : Blk w g T L) : ∀ j u, L[j]? = some u → w.cell? ((⟨g, 0, none⟩ : Addr).add j) = some u := fun j u hj => by
  rw [addr_add, Nat.zero_add, h.cell j]; exact hj
/-- Some numbers in a row that the text lays. -/
theorem nums_lit {w : World} {g : Nat} {ks : List Int} (h : Blk w g 3 (numv ks)) (hk : ∀ x ∈ ks, -9223372036854775808 ≤ x ∧ x ≤ 9223372036854775807) (h0 : 0 < ks.length) (hl : ks.length ≤ 1000) : Nums w (.slice (some ⟨g, 0, none⟩) ks.length ks.length) ks :=
  ⟨hk, by omega, .inr ⟨h0, g, 0, ks.length, rfl, Nat.le_refl _, h.lt, fun i hi => by rw [Nat.zero_add, h.cell i]; simp [numv, hi]⟩⟩
/-- What made tells: a plan of numbers that are brought right. -/
def MadeTo (w : World) (x y : Int) (e : Ending) (w' : World) : Prop := ∃ (n b : Nat) (v : Value), (n : Int) = 1 + x % 4096 ∧ (b : Int) = 1 + y % 256 ∧ e = .returned (.tuple #[pval (plan n b) v, .bool true]) ∧ Own w w' v (plan n b).levels ∧ Grow w w'
end Go.Proofs.YtmlladpmecclbaaDoor
/- The reference's Level. -/
namespace Go.Proofs.YtmlladpmecclbaaDoor
open Go.RowKit

def levGo : Int → Int → List Int → Int × Int
  | _, _, [] => (-1, 0)
  | i, a, x :: l => if a < 0 then (-1, 0) else if a < x then (i, a) else levGo (i + 1) (a - x) l
theorem levGo_cons (i a x : Int) (l : List Int) : levGo i a (x :: l) = if a < 0 then (-1, 0) else if a < x then (i, a) else levGo (i + 1) (a - x) l := rfl
def Pn.all (p : Pn) : List Int := p.pages :: p.counters :: p.levels
def Pn.lev (p : Pn) (b : Int) : Int × Int := levGo 0 b p.all
theorem levGo_neg {i a : Int} {l : List Int} (h : a < 0) : levGo i a l = (-1, 0) := by
  cases l with
  | nil => rfl
  | cons x l => rw [levGo_cons, if_pos h]
set_option maxRecDepth 100000 in
set_option maxHeartbeats 2000000 in
theorem rlevel_any (w : World) (p : Pn) (v : Value) (b : Int) (hb : i64 b) (hv : Nums w v p.levels) (hlen : p.levels.length ≤ 1000) (hp : ∀ x ∈ p.all, 0 ≤ x ∧ x ≤ 1000000) : Calls Tryd.prog 57 #[pval p v, .int .i64 b] w fun e w' => e = .returned (.tuple #[.int .i64 (p.lev b).1, .int .i64 (p.lev b).2]) ∧ Grow w w' := by
  obtain ⟨W, gp, hbx⟩ := box_pl w p v
  have HW := Hid.mk' hbx.ew
  have HGP := Hid.mk' hbx.eg
  have HG := Hid.mk' hbx.grow
  have c0 : W.cell? ⟨gp, 0, none⟩ = some (.int .i64 p.pages) := hbx.blk.cell 0
  have c2 : W.cell? ⟨gp, 2, none⟩ = some (.int .i64 p.counters) := hbx.blk.cell 2
  have HBX := Hid.mk' hbx
  have HV := Hid.mk' hv
  have HLN := Hid.mk' hlen
  have HP := Hid.mk' hp
  unfold Pn.lev
  obtain ⟨al, hal⟩ : ∃ al, al = p.all := ⟨_, rfl⟩
  rw [← hal] at HP ⊢
  obtain ⟨q0, r0⟩ : ∃ q, q = p.pages := ⟨_, rfl⟩
  obtain ⟨q2, r2⟩ : ∃ q, q = p.counters := ⟨_, rfl⟩
  rw [← r0] at c0
  rw [← r2] at c2
  have HAL : Hid (al = [q0, q2] ++ p.levels) := Hid.mk' (by rw [hal, r0, r2]; rfl)
  obtain ⟨n, hn⟩ : ∃ n, n = al.length := ⟨_, rfl⟩
  have HN := Hid.mk' hn
  have hnb : n ≤ 1002 := by rw [hn, hal]; unfold Pn.all; simp; omega
  have HNL : Hid (n = 2 + p.levels.length) := Hid.mk' (by rw [hn, hal]; unfold Pn.all; simp; omega)
  have hni : (n : Int) ≤ 1002 := by omega
  unfold pval
  obtain ⟨N, hN⟩ : ∃ N, N = (pcells p v).toArray := ⟨_, rfl⟩
  rw [← hN] at HW ⊢
  have hb1 := hb.1
  have hb2 := hb.2
  obtain ⟨W1, hW1⟩ : ∃ W1, W1 = W.alloc (.cells #[.int .i64 q0, .int .i64 q2] 3) := ⟨_, rfl⟩
  have HG1 : Hid (Grow W W1) := Hid.mk' (by rw [hW1]; exact (But.refl _ W).alloc _)
  have HBL : Hid (Blk W1 W.heap.size 3 (numv [q0, q2])) := Hid.mk' (by rw [hW1]; exact Blk.new (L := numv [q0, q2]) rfl)
  have HW1 := Hid.mk' hW1
  clear hbx hv hlen hp hal r0 r2 hn hN hb hW1 hnb
  go_enter Tryd.func57, Tryd.ntmps57
  go_upto_region 1 with fail
  rw [← HW.out, ← HGP.out]
  clear HW HGP
  go_upto_region 4 with (first
    | (refine wpList_someH rfl (exec_append (v := noS) (n := 0) (xs := []) (news := numv [q0, q2]) Tryd.underlying23 infNum rfl (by decide) rfl rfl (World.ownsRow_nil _ _ _ _) rfl rfl (fun j u hj => by first | exact HBL.out.cells0 j u hj | (rw [HW1.out] at HBL; exact HBL.out.cells0 j u hj)) (fun u hu => by simp only [numv, List.map_cons, List.map_nil, List.mem_cons, List.not_mem_nil, or_false] at hu; rcases hu with rfl | rfl <;> rfl) (by decide) (by decide)) ?_; intro v4 w4 hap)
    | fail)
  have hap' : Appd (W.alloc (.cells #[.int .i64 q0, .int .i64 q2] 3)) w4 3 1 noS v4 2 (numv [q0, q2]) := hap
  rw [← HW1.out] at hap'
  have hg4 : Grow W w4 := HG1.out.then hap'.but (fun _ _ e => by cases e)
  obtain ⟨va, vc, hve⟩ := own_sl hap'.own
  subst hve
  have HR4 := Hid.mk' hap'.own
  have HG4 := Hid.mk' hg4
  have HNB : Hid (∀ k, (Value.slice va 2 vc).ownBlock = some k → W.heap.size ≤ k) := fun k hk => by
    rcases hap'.at' with e | e
    · rw [e] at hk; cases hk
    · rw [e] at hk
      have := Option.some.inj hk
      have := HG1.out.size
      omega
  have c3 : w4.cell? ⟨gp, 3, none⟩ = some v := (HBX.out.blk.but hg4 (fun h => h)).cell 3
  clear hap hap' hg4 HG1 HBL HW1 c0 c2
  obtain ⟨la, lc, hle⟩ := HV.out.len
  have HNV := Hid.mk' ((HV.out.grow HG.out).grow HG4.out)
  generalize hll : p.levels.length = ln at hle
  have HLL := Hid.mk' hll
  subst hle
  clear hll
  go_upto_region 5 with (first
    | (refine wpList_someH rfl (exec_appendN (v := .slice va 2 vc) (u := .slice la ln lc) (n := 2) (xs := numv [q0, q2]) (ks := p.levels) rfl rfl HR4.out rfl HNV.out (by have := HLN.out; omega)) ?_; intro v5 w5 hap)
    | fail)
  have hap' : Appd w4 w5 3 1 (.slice va 2 vc) v5 (2 + p.levels.length) (numv [q0, q2] ++ numv p.levels) := hap
  rw [show numv [q0, q2] ++ numv p.levels = numv al by rw [HAL.out]; simp [numv], ← HNL.out] at hap'
  have HG5 : Hid (Grow w w5) := Hid.mk' ((HG.out.trans HG4.out).then hap'.but (fun b hb e => by have := HNB.out b e; have := HG.out.size; omega))
  obtain ⟨ra, rc, hre⟩ := own_sl hap'.own
  have hrow := hap'.own
  rw [HN.out] at hrow
  have HNR := Hid.mk' (Nums.ofRow hrow (fun x hx => by have := HP.out x hx; omega) (by rw [← HN.out]; omega))
  subst hre
  clear hap hap' hrow HR4 HNB c3 HNV HLL
  go_wp2
  go_loopw [6, 8] (fun av iv wr => ∃ (i : Nat) (a : Int), i ≤ n ∧ iv = .int .i64 i ∧ av = .int .i64 a ∧ (0 ≤ a ∨ i = 0 ∧ a = b) ∧ a ≤ 9223372036854775807 ∧ levGo 0 b al = levGo i a (al.drop i) ∧ wr = w5) (fun _ iv _ => n - (intOf iv).toNat)
  case atStart => exact ⟨0, b, Nat.zero_le _, rfl, rfl, .inr ⟨rfl, rfl⟩, hb2, rfl, rfl⟩
  case round =>
    obtain ⟨i, a, hin, rfl, rfl, ha, ha2, hle, rfl⟩ := hrel
    have HLE := Hid.mk' hle
    have HA := Hid.mk' ha
    clear hle ha
    by_cases hlt : i < n
    · have hlti : (i : Int) < (n : Int) := by omega
      by_cases h0 : a < 0
      · have h0i : ¬ 0 ≤ a := by omega
        have HE : Hid (levGo 0 b al = (-1, 0)) := Hid.mk' (by rw [HLE.out, levGo_neg h0])
        clear h0 hin hlt
        go_wp2
        exact bodyPost_ret (results_tmp2 rfl _ _ _) rfl ⟨by rw [HE.out]; rfl, HG5.out⟩
      · have h0i : 0 ≤ a := by omega
        obtain ⟨bb, o1, k1, e1, -, -, hc1⟩ := HNR.out.at (by have := HN.out; omega)
        rw [← HN.out] at e1
        simp only [Value.slice.injEq] at e1
        obtain ⟨rfl, -, rfl⟩ := e1
        obtain ⟨u, hu⟩ : ∃ u, u = al.getD i 0 := ⟨_, rfl⟩
        have cu := hc1 i (by have := HN.out; omega)
        have h9 : i < al.length := by have := HN.out; omega
        have hdr : al.drop i = u :: al.drop (i + 1) := by
          rw [List.drop_eq_getElem_cons h9, hu, List.getD_eq_getElem?_getD, List.getElem?_eq_getElem h9]; rfl
        have hub : 0 ≤ u ∧ u ≤ 1000000 := HP.out u (by rw [hu, List.getD_eq_getElem?_getD, List.getElem?_eq_getElem h9]; exact List.getElem_mem h9)
        have hu0 := hub.1
        have hu1 := hub.2
        rw [← hu] at cu
        rw [hdr, levGo_cons, if_neg h0] at HLE
        have HLT := Hid.mk' hlt
        clear hc1 hu h9 hdr hub h0 hin hlt
        by_cases hau : a < u
        · rw [if_pos hau] at HLE
          go_wp2
          exact bodyPost_ret (results_tmp2 rfl _ _ _) rfl ⟨by rw [HLE.out]; rfl, HG5.out⟩
        · rw [if_neg hau] at HLE
          go_wp2
          exact ⟨⟨i + 1, a - u, by have := HLT.out; omega, by go_num, rfl, .inl (by omega), by omega, by rw [HLE.out]; rfl, trivial⟩, by simp [intOf]; have := HLT.out; omega⟩
    · have hlti : ¬ (i : Int) < (n : Int) := by omega
      have HE : Hid (levGo 0 b al = (-1, 0)) := Hid.mk' (by rw [HLE.out, List.drop_eq_nil_iff.2 (by have := HN.out; omega)]; rfl)
      clear hin hlt
      go_wp2
      exact bodyPost_ret (results_tmp2 rfl _ _ _) rfl ⟨by rw [HE.out]; rfl, HG5.out⟩
end Go.Proofs.YtmlladpmecclbaaDoor
/- The reference's First. -/
namespace Go.Proofs.YtmlladpmecclbaaDoor
open Go.RowKit

def sumI (l : List Int) : Int := l.foldl (· + ·) 0
theorem sumI_take {l : List Int} {i : Nat} {u : Int} (h : l[i]? = some u) : sumI (l.take (i + 1)) = sumI (l.take i) + u := by
  have h3 := List.getElem?_eq_some_iff.1 h
  unfold sumI
  rw [List.take_succ_eq_append_getElem h3.1, List.foldl_append, h3.2]; rfl
def Pn.first (p : Pn) (lv : Nat) : Int := if lv ≤ 1 then p.pages else p.pages + p.counters + sumI (p.levels.take (lv - 2))
set_option maxRecDepth 100000 in
set_option maxHeartbeats 2000000 in
theorem rfirst_any (w : World) (p : Pn) (v : Value) (lv : Nat) (h1 : 1 ≤ lv) (h2 : lv ≤ p.levels.length + 2) (hv : Nums w v p.levels) (hlen : p.levels.length ≤ 1000) (hp0 : 0 ≤ p.pages ∧ p.pages ≤ 1000000) (hc0 : 0 ≤ p.counters ∧ p.counters ≤ 1000000) (hs : ∀ i, 0 ≤ sumI (p.levels.take i) ∧ sumI (p.levels.take i) ≤ 1000000) : Calls Tryd.prog 58 #[pval p v, .int .i64 (lv : Int)] w fun e w' => e = .returned (.int .i64 (p.first lv)) ∧ Grow w w' := by
  obtain ⟨W, gp, hbx⟩ := box_pl w p v
  have HW := Hid.mk' hbx.ew
  have HGP := Hid.mk' hbx.eg
  have HG := Hid.mk' hbx.grow
  have c0 : W.cell? ⟨gp, 0, none⟩ = some (.int .i64 p.pages) := hbx.blk.cell 0
  have c2 : W.cell? ⟨gp, 2, none⟩ = some (.int .i64 p.counters) := hbx.blk.cell 2
  have c3 : W.cell? ⟨gp, 3, none⟩ = some v := hbx.blk.cell 3
  have HV := Hid.mk' (hv.grow hbx.grow)
  unfold Pn.first
  obtain ⟨q0, r0⟩ : ∃ q, q = p.pages := ⟨_, rfl⟩
  obtain ⟨q2, r2⟩ : ∃ q, q = p.counters := ⟨_, rfl⟩
  obtain ⟨ls, rl⟩ : ∃ q, q = p.levels := ⟨_, rfl⟩
  rw [← r0] at c0 hp0 ⊢
  rw [← r2] at c2 hc0 ⊢
  rw [← rl] at HV hlen hs h2 ⊢
  have hp1 := hp0.1
  have hp2 := hp0.2
  have hc1 := hc0.1
  have hc2 := hc0.2
  have HS := Hid.mk' hs
  obtain ⟨la, lc, hve⟩ := HV.out.len
  obtain ⟨ln, hln⟩ : ∃ n, n = ls.length := ⟨_, rfl⟩
  rw [← hln] at hve h2 hlen
  have HLN := Hid.mk' hln
  have hlvi : (lv : Int) ≤ 1002 := by omega
  have H2 := Hid.mk' h2
  unfold pval
  obtain ⟨N, hN⟩ : ∃ N, N = (pcells p v).toArray := ⟨_, rfl⟩
  rw [← hN] at HW ⊢
  have hl0 : (0 : Int) < (lv : Int) := by omega
  clear hbx hv hlen hs hp0 hc0 r0 r2 rl hln hN h2
  subst hve
  by_cases hl : lv ≤ 1
  · have hl1 : ¬ (1 : Int) < (lv : Int) := by omega
    have hl2 : ¬ (2 : Int) < (lv : Int) := by omega
    rw [if_pos hl]
    clear hl h1
    go_enter Tryd.func58, Tryd.ntmps58
    go_upto_region 1 with fail
    rw [← HW.out, ← HGP.out]
    clear HW HGP
    go_wp2
    go_loopw [5, 6] (fun sv iv wr => sv = .int .i64 q0 ∧ iv = .int .i64 2 ∧ wr = W) (fun _ _ _ => 0)
    case atStart => exact ⟨rfl, rfl, rfl⟩
    case round =>
      obtain ⟨rfl, rfl, rfl⟩ := hrel
      go_wp2
      go_ret
      exact ⟨rfl, HG.out⟩
  · have hl1 : (1 : Int) < (lv : Int) := by omega
    rw [if_neg hl]
    have HL := Hid.mk' hl
    clear hl h1
    go_enter Tryd.func58, Tryd.ntmps58
    go_upto_region 1 with fail
    rw [← HW.out, ← HGP.out]
    clear HW HGP
    go_wp2
    go_loopw [5, 6] (fun sv iv wr => ∃ (i : Nat), i + 2 ≤ lv ∧ sv = .int .i64 (q0 + q2 + sumI (ls.take i)) ∧ iv = .int .i64 ((i : Int) + 2) ∧ wr = W) (fun _ iv _ => lv - (intOf iv).toNat)
    case atStart => exact ⟨0, by have := HL.out; omega, by show _ = Value.int .i64 (q0 + q2 + 0); rw [Int.add_zero], rfl, rfl⟩
    case round =>
      obtain ⟨i, hil, rfl, rfl, rfl⟩ := hrel
      have hsb := HS.out i
      generalize hsm : sumI (ls.take i) = sm at hsb ⊢
      have HSM := Hid.mk' hsm
      have s1 := hsb.1
      have s2 := hsb.2
      by_cases hlt : i + 2 < lv
      · have hlti : (i : Int) + 2 < (lv : Int) := by omega
        obtain ⟨bb, o1, k1, e1, -, -, hc1⟩ := HV.out.at (by have := HLN.out; have := H2.out; omega)
        rw [← HLN.out] at e1
        simp only [Value.slice.injEq] at e1
        obtain ⟨rfl, -, rfl⟩ := e1
        have h9 : i < ls.length := by have := HLN.out; have := H2.out; omega
        obtain ⟨u, hu⟩ : ∃ u, ls[i]? = some u := ⟨_, List.getElem?_eq_getElem h9⟩
        have cu := hc1 i h9
        rw [List.getD_eq_getElem?_getD, hu, Option.getD_some] at cu
        have hst := sumI_take hu
        have hs3 := HS.out (i + 1)
        rw [hst, hsm] at hs3
        rw [hsm] at hst
        have HST := Hid.mk' hst
        have s3 := hs3.1
        have s4 := hs3.2
        have hix : (i : Int) + 2 - 2 = (i : Int) := by omega
        have hil2 : (i : Int) < (ln : Int) := by have := HLN.out; omega
        clear hc1 hu hst hs3 h9 hsm hsb hil hlt
        go_wp2
        exact ⟨⟨i + 1, by omega, by rw [HST.out]; congr 1; omega, by first | rfl | (congr 1; omega), trivial⟩, by simp [intOf]; omega⟩
      · have hlti : ¬ (i : Int) + 2 < (lv : Int) := by omega
        have HIE : Hid (lv - 2 = i) := Hid.mk' (by omega)
        clear hsm hsb hil hlt
        go_wp2
        go_ret
        exact ⟨by rw [HIE.out, HSM.out]; rfl, HG.out⟩
end Go.Proofs.YtmlladpmecclbaaDoor
/- The reference's Parent. -/
namespace Go.Proofs.YtmlladpmecclbaaDoor
open Go.RowKit

def Pn.rpar (p : Pn) (b : Int) : Pc :=
  if (p.lev b).1 < 0 then ⟨0, 0, 1⟩ else if (p.lev b).1 = (p.levels.length : Int) + 1 then ⟨0, 0, 5⟩
  else if (p.lev b).1 = 0 then ⟨p.first 1 + (p.lev b).2 / 16, (p.lev b).2 % 16, 0⟩ else ⟨p.first ((p.lev b).1 + 1).toNat + (p.lev b).2 / 8, (p.lev b).2 % 8, 0⟩
theorem levGo_in : ∀ (l : List Int) (i a : Int), 0 ≤ i → (∀ x ∈ l, x ≤ 1000000) → (levGo i a l).1 = -1 ∨ (i ≤ (levGo i a l).1 ∧ (levGo i a l).1 < i + l.length ∧ 0 ≤ (levGo i a l).2 ∧ (levGo i a l).2 ≤ 1000000)
  | [], i, a, _, _ => .inl rfl
  | x :: l, i, a, hi, hx => by
    rw [levGo_cons]
    split
    · exact .inl rfl
    · split
      · right
        have := hx x List.mem_cons_self
        refine ⟨by simp, by simp; omega, by simp; omega, by simp; omega⟩
      · rcases levGo_in l (i + 1) (a - x) (by omega) (fun y hy => hx y (List.mem_cons_of_mem _ hy)) with h | ⟨h1, h2, h3⟩
        · exact .inl h
        · exact .inr ⟨by omega, by rw [List.length_cons]; omega, h3⟩
/-- What the reference asks of a plan. -/
structure Pn.good (p : Pn) : Prop where
  len : p.levels.length ≤ 1000
  all : ∀ x ∈ p.all, 0 ≤ x ∧ x ≤ 1000000
  sum : ∀ i, 0 ≤ sumI (p.levels.take i) ∧ sumI (p.levels.take i) ≤ 1000000
theorem Pn.good.pg {p : Pn} (h : p.good) : 0 ≤ p.pages ∧ p.pages ≤ 1000000 := h.all _ List.mem_cons_self
theorem Pn.good.ct {p : Pn} (h : p.good) : 0 ≤ p.counters ∧ p.counters ≤ 1000000 := h.all _ (List.mem_cons_of_mem _ List.mem_cons_self)
theorem Pn.good.fst {p : Pn} (h : p.good) (k : Nat) : 0 ≤ p.first k ∧ p.first k ≤ 3000000 := by
  have h1 := h.pg
  have h2 := h.ct
  have h3 := h.sum (k - 2)
  unfold Pn.first
  split <;> omega
set_option maxRecDepth 100000 in
set_option maxHeartbeats 2000000 in
theorem rparent_any (w : World) (p : Pn) (v : Value) (b : Int) (hb : i64 b) (hv : Nums w v p.levels) (hg : p.good) : Calls Tryd.prog 38 #[pval p v, .int .i64 b] w fun e w' => e = .returned (p.rpar b).ret ∧ Grow w w' := by
  obtain ⟨W0, W1, g0, g1, hW0, hg0, hW1, hg1, hM⟩ := par_begin w p v
  have HW0 := Hid.mk' hW0
  have HG0 := Hid.mk' hg0
  have HW1 := Hid.mk' hW1
  have HG1 := Hid.mk' hg1
  have HM := Hid.mk' hM
  have HL1 := Hid.mk' hM.box.pl
  have HV := Hid.mk' (hv.grow hM.grow)
  have HGD := Hid.mk' hg
  have HLV := Hid.mk' (rlevel_any W1 p v b hb (hv.grow hM.grow) hg.len hg.all)
  have HIN := Hid.mk' (levGo_in p.all 0 b (by decide) (fun x hx => (hg.all x hx).2))
  have hall : (p.all.length : Int) = (p.levels.length : Int) + 2 := by unfold Pn.all; simp; omega
  have HALL := Hid.mk' hall
  unfold Pn.rpar
  have hlv : p.lev b = levGo 0 b p.all := rfl
  rw [← hlv] at HIN
  obtain ⟨⟨L, I⟩, hLI⟩ : ∃ q, q = p.lev b := ⟨_, rfl⟩
  rw [← hLI] at HLV HIN ⊢
  dsimp only at HLV HIN ⊢
  obtain ⟨la, lc, hve⟩ := hv.len
  obtain ⟨ln, hln⟩ : ∃ n, n = p.levels.length := ⟨_, rfl⟩
  rw [← hln] at hve HALL ⊢
  obtain ⟨R, hR⟩ : ∃ R : Pc, R = (if L < 0 then (⟨0, 0, 1⟩ : Pc) else if L = (ln : Int) + 1 then ⟨0, 0, 5⟩ else if L = 0 then ⟨p.first 1 + I / 16, I % 16, 0⟩ else ⟨p.first (L + 1).toNat + I / 8, I % 8, 0⟩) := ⟨_, rfl⟩
  rw [← hR]
  have HR := Hid.mk' hR
  clear hR
  have HLN := Hid.mk' hln
  have hlni : (ln : Int) ≤ 1000 := by have := hg.len; omega
  have c3 : ∀ wz, Grow W1 wz → wz.cell? ⟨g0, 3, none⟩ = some v := fun wz k => (hM.box.but k (fun h => h)).cell 3
  have HC3 := Hid.mk' c3
  unfold pval
  obtain ⟨N, hN⟩ : ∃ N, N = (pcells p v).toArray := ⟨_, rfl⟩
  rw [← hN] at HW0 ⊢
  clear hW0 hg0 hW1 hg1 hM hv hg hall hlv hLI hln c3 hN hb
  subst hve
  go_enter Tryd.func38, Tryd.ntmps38
  go_upto_region 1 with (first
    | (refine wpList_runH rfl (exec_allocF rfl (zPc _)) ?_; rw [← HW0.out, ← HG0.out, ← HW1.out, ← HG1.out])
    | fail)
  clear HW0 HG0 HW1 HG1
  go_wp2_with (first
    | (refine wpList_load_cells rfl _ _ rfl ⟨g0, 0, none⟩ rfl (pcells p (.slice la ln lc)) _ HL1.out Tryd.underlying25 rfl iPl ?_)
    | fail)
  refine Calls.mono HLV.out ?_
  rintro e w2 ⟨rfl, hg2⟩
  have HG2 := Hid.mk' hg2
  have c3 := HC3.out w2 hg2
  have HA2 := Hid.mk' (HM.out.ans.but hg2 (fun h => h))
  have HL2 := Hid.mk' (HM.out.box.but hg2 (fun h => h)).pl
  clear hg2 HLV HL1
  by_cases h1 : L < 0
  · have HE : Hid (R = ⟨0, 0, 1⟩) := Hid.mk' (by rw [HR.out, if_pos h1])
    go_wp2_with (first
      | (refine wpList_store_at rfl _ _ _ rfl g1 0 (plc 0 0) rfl rfl 78 [] (plc 0 0) [] (by simpa using HA2.out) rfl rfl iPc (plc_one _ _) ?_; intro w9 hb9 hbut9; rw [List.nil_append, List.append_nil] at hb9)
      | fail)
    exact bodyPost_ret (results_plan_tmp rfl _ _ g1 _ _ _ _ rfl hb9 Tryd.underlying78 rfl iPc rfl) rfl ⟨by rw [HE.out]; rfl, HM.out.fin HG2.out hbut9⟩
  · have hin := HIN.out
    have hall := HALL.out
    by_cases h2 : L = (ln : Int) + 1
    · have HE : Hid (R = ⟨0, 0, 5⟩) := Hid.mk' (by rw [HR.out, if_neg h1, if_pos h2])
      have hb2 : (L == (ln : Int) + 1) = true := by simpa using h2
      clear hin hall h2
      go_wp2_with (first
        | (refine wpList_store_at rfl _ _ _ rfl g1 0 (plc 0 0) rfl rfl 78 [] (plc 0 0) [] (by simpa using HA2.out) rfl rfl iPc (plc_one _ _) ?_; intro w9 hb9 hbut9; rw [List.nil_append, List.append_nil] at hb9)
        | fail)
      exact bodyPost_ret (results_plan_tmp rfl _ _ g1 _ _ _ _ rfl hb9 Tryd.underlying78 rfl iPc rfl) rfl ⟨by rw [HE.out]; rfl, HM.out.fin HG2.out hbut9⟩
    · have hb2 : (L == (ln : Int) + 1) = false := by simpa using h2
      have hI0 : 0 ≤ I := by omega
      have hI1 : I ≤ 1000000 := by omega
      by_cases h3 : L = 0
      · have HE : Hid (R = ⟨p.first 1 + I / 16, I % 16, 0⟩) := Hid.mk' (by rw [HR.out, if_neg h1, if_neg h2, if_pos h3])
        have hb3 : (L == 0) = true := by simpa using h3
        have hF := HGD.out.fst 1
        have HFR := Hid.mk' (rfirst_any w2 p (.slice la ln lc) 1 (by decide) (by omega) (HV.out.grow HG2.out) HGD.out.len HGD.out.pg HGD.out.ct HGD.out.sum)
        generalize p.first 1 = f1 at HE hF HFR
        have f10 := hF.1
        have f11 := hF.2
        have hq : I.tdiv 16 = I / 16 := Int.tdiv_eq_ediv_of_nonneg hI0
        obtain ⟨q, hqe⟩ : ∃ q, q = I / 16 := ⟨_, rfl⟩
        rw [← hqe] at hq HE
        have q0 : 0 ≤ q := by omega
        have q1 : q ≤ 1000000 := by omega
        clear hin hall h2 h3 hF hqe
        go_wp2_with (first
          | (refine wpList_load_cells rfl _ _ rfl ⟨g0, 0, none⟩ rfl (pcells p (.slice la ln lc)) _ HL2.out Tryd.underlying25 rfl iPl ?_)
          | fail)
        refine Calls.mono HFR.out ?_
        rintro e w3 ⟨rfl, hg3⟩
        have HG3 := Hid.mk' (HG2.out.trans hg3)
        have HA3 := Hid.mk' (HA2.out.but hg3 (fun h => h))
        clear hg3 HFR
        go_wp2_with (first
          | (refine wpList_store_at rfl _ _ _ rfl g1 0 (plc (f1 + q) (I % 16)) rfl rfl 78 [] (plc 0 0) [] (by simpa using HA3.out) rfl rfl iPc (plc_one _ _) ?_; intro w9 hb9 hbut9; rw [List.nil_append, List.append_nil] at hb9)
          | fail)
        exact bodyPost_ret (results_plan_tmp rfl _ _ g1 _ _ _ _ rfl hb9 Tryd.underlying78 rfl iPc rfl) rfl ⟨by rw [HE.out]; rfl, HM.out.fin HG3.out hbut9⟩
      · have hb3 : (L == 0) = false := by simpa using h3
        obtain ⟨k, hk⟩ : ∃ k : Nat, (k : Int) = L + 1 := ⟨(L + 1).toNat, by omega⟩
        have HE : Hid (R = ⟨p.first k + I / 8, I % 8, 0⟩) := Hid.mk' (by rw [HR.out, if_neg h1, if_neg h2, if_neg h3, show (L + 1).toNat = k by omega])
        have hF := HGD.out.fst k
        have HFR := Hid.mk' (rfirst_any w2 p (.slice la ln lc) k (by omega) (by have := HLN.out; omega) (HV.out.grow HG2.out) HGD.out.len HGD.out.pg HGD.out.ct HGD.out.sum)
        rw [hk] at HFR
        generalize p.first k = f1 at HE hF HFR
        have f10 := hF.1
        have f11 := hF.2
        have hq : I.tdiv 8 = I / 8 := Int.tdiv_eq_ediv_of_nonneg hI0
        obtain ⟨q, hqe⟩ : ∃ q, q = I / 8 := ⟨_, rfl⟩
        rw [← hqe] at hq HE
        have q0 : 0 ≤ q := by omega
        have q1 : q ≤ 1000000 := by omega
        have hL1 : L ≤ 1002 := by omega
        clear hin hall h2 h3 hF hqe hk
        go_wp2_with (first
          | (refine wpList_load_cells rfl _ _ rfl ⟨g0, 0, none⟩ rfl (pcells p (.slice la ln lc)) _ HL2.out Tryd.underlying25 rfl iPl ?_)
          | fail)
        refine Calls.mono HFR.out ?_
        rintro e w3 ⟨rfl, hg3⟩
        have HG3 := Hid.mk' (HG2.out.trans hg3)
        have HA3 := Hid.mk' (HA2.out.but hg3 (fun h => h))
        clear hg3 HFR
        go_wp2_with (first
          | (refine wpList_store_at rfl _ _ _ rfl g1 0 (plc (f1 + q) (I % 8)) rfl rfl 78 [] (plc 0 0) [] (by simpa using HA3.out) rfl rfl iPc (plc_one _ _) ?_; intro w9 hb9 hbut9; rw [List.nil_append, List.append_nil] at hb9)
          | fail)
        exact bodyPost_ret (results_plan_tmp rfl _ _ g1 _ _ _ _ rfl hb9 Tryd.underlying78 rfl iPc rfl) rfl ⟨by rw [HE.out]; rfl, HM.out.fin HG3.out hbut9⟩
end Go.Proofs.YtmlladpmecclbaaDoor
/- The reference's Parent and the program's agree, of plans that Of made. -/
namespace Go.Proofs.YtmlladpmecclbaaDoor
open Go.RowKit

theorem foldl_sm : ∀ (l : List Int) (a : Int), l.foldl (· + ·) a = a + sm l
  | [], a => by show a = a + 0; omega
  | x :: l, a => by
    rw [List.foldl_cons, foldl_sm l (a + x)]
    show a + x + sm l = a + (x + sm l)
    omega
theorem sumI_sm (l : List Int) : sumI l = sm l := by
  unfold sumI
  rw [foldl_sm, Int.zero_add]
theorem sm_take : ∀ {l : List Int}, (∀ a ∈ l, 1 ≤ a) → ∀ i, 0 ≤ sm (l.take i) ∧ sm (l.take i) ≤ sm l
  | [], _, i => by rw [List.take_nil]; exact ⟨Int.le_refl _, Int.le_refl _⟩
  | x :: l, h, 0 => by
    have hs := (sm_take (fun a ha => h a (List.mem_cons_of_mem _ ha)) 0 : 0 ≤ sm (l.take 0) ∧ sm (l.take 0) ≤ sm l)
    have := h x List.mem_cons_self
    refine ⟨Int.le_refl _, ?_⟩
    show 0 ≤ x + sm l
    omega
  | x :: l, h, i + 1 => by
    have hs := sm_take (fun a ha => h a (List.mem_cons_of_mem _ ha)) i
    have := h x List.mem_cons_self
    rw [List.take_succ_cons]
    refine ⟨?_, ?_⟩
    · show 0 ≤ x + sm (l.take i); omega
    · show x + sm (l.take i) ≤ x + sm l; omega
theorem sm_mem : ∀ {l : List Int}, (∀ a ∈ l, 1 ≤ a) → ∀ a ∈ l, a ≤ sm l
  | x :: l, h, a, ha => by
    have hl : ∀ a ∈ l, 1 ≤ a := fun a ha => h a (List.mem_cons_of_mem _ ha)
    have h0 := (sm_take hl 0)
    have hp := h x List.mem_cons_self
    have h00 : 0 ≤ sm l := Int.le_trans h0.1 h0.2
    show a ≤ x + sm l
    rcases List.mem_cons.1 ha with rfl | ha
    · omega
    · have := sm_mem hl a ha
      omega
theorem Mad.good {p : Pn} (h : Mad p) : p.good := by
  have hl := (h.lv.pos h.c1.1).1
  have hs := h.sum
  refine ⟨by have := h.len; omega, fun x hx => ?_, fun i => ?_⟩
  · unfold Pn.all at hx
    rcases List.mem_cons.1 hx with rfl | hx
    · have := h.pg; omega
    · rcases List.mem_cons.1 hx with rfl | hx
      · have := h.c1; omega
      · have := hl x hx
        have := sm_mem hl x hx
        omega
  · rw [sumI_sm]
    have := sm_take hl i
    omega
/-- The reference's answer out of a level's number. -/
def out (p : Pn) (q : Int × Int) : Pc := if q.1 < 0 then ⟨0, 0, 1⟩ else if q.1 = (p.levels.length : Int) + 1 then ⟨0, 0, 5⟩ else ⟨p.first (q.1 + 1).toNat + q.2 / 8, q.2 % 8, 0⟩
theorem go_eq {p : Pn} {x t : Int} (hx : x ≤ 9223372036854775807) : ∀ (ls : List Int) (i : Nat) (f m : Int), 0 ≤ f → f ≤ x → 1 ≤ m → LvC m ls → f + m + sm ls ≤ 1000000 → t = f + m + sm ls - 1 → i + ls.length = p.levels.length + 1 → 1 ≤ i →
    (∀ j, j < ls.length → p.first (i + 1 + j) = f + m + sm (ls.take j)) → parGo x t f m ls = out p (levGo i (x - f) (m :: ls))
  | [], i, f, m, hf, hfx, hm, hl, hs, ht, hi, hi1, hfr => by
    have hm1 : m = 1 := hl
    unfold sm at hs ht
    by_cases he : x = t
    · rw [parGo_nil, if_pos he, levGo_cons, if_neg (by omega), if_pos (by omega)]
      unfold out
      dsimp only
      rw [if_neg (by omega), if_pos (by simp at hi; omega)]
    · rw [parGo_nil, if_neg he, levGo_cons, if_neg (by omega), if_neg (by omega)]
      rfl
  | a :: ls, i, f, m, hf, hfx, hm, hl, hs, ht, hi, hi1, hfr => by
    obtain ⟨h1, h2⟩ := hl
    have h3 := LvC.pos (by omega) h2
    unfold sm at hs ht
    rw [levGo_cons, if_neg (by omega)]
    rw [List.length_cons] at hi
    by_cases hin : x - f < m
    · rw [if_pos hin, parGo_in hf hfx (by omega) (by omega)]
      unfold out
      dsimp only
      rw [if_neg (by omega), if_neg (by omega)]
      have h5 := hfr 0 (by simp)
      rw [show ((i : Int) + 1).toNat = i + 1 + 0 by omega, h5]
      show _ = (⟨f + m + 0 + (x - f) / 8, (x - f) % 8, 0⟩ : Pc)
      rw [Int.add_zero]
    · rw [if_neg hin, parGo_skip hf (by omega) (by omega) hx]
      have h6 := go_eq (p := p) (t := t) hx ls (i + 1) (f + m) a (by omega) (by omega) (by omega) h2 (by omega) (by omega) (by omega) (by omega) (fun j hj => by
        have h7 := hfr (j + 1) (by rw [List.length_cons]; omega)
        rw [List.take_succ_cons] at h7
        unfold sm at h7
        rw [show i + 1 + 1 + j = i + 1 + (j + 1) by omega, h7]
        omega)
      rw [h6, show x - (f + m) = x - f - m by omega]
      rfl
theorem Mad.rpar {p : Pn} (h : Mad p) {x : Int} (hx : i64 x) : p.rpar x = p.par x := by
  have hpg := h.pg
  have hc := h.c1
  have hs := h.sum
  have ht := h.top
  unfold Pn.rpar Pn.lev Pn.all
  by_cases h0 : x < 0
  · rw [levGo_neg h0]
    unfold Pn.par
    rw [if_pos h0]
    rfl
  · by_cases h1 : x < p.pages
    · rw [h.par_pg (by omega) h1, levGo_cons, if_neg h0, if_pos h1]
      dsimp only
      rw [if_neg (by decide), if_neg (by omega), if_pos rfl]
      rfl
    · rw [h.par_hi x (by omega) hx.2, levGo_cons, if_neg h0, if_neg h1]
      rw [go_eq (p := p) hx.2 p.levels 1 p.pages p.counters (by omega) (by omega) hc.1 h.lv (by omega) ht (by omega) (by decide) (fun j hj => by
        unfold Pn.first
        rw [if_neg (by omega), show 1 + 1 + j - 2 = j by omega, sumI_sm])]
      have hin := levGo_in (p.counters :: p.levels) (0 + 1) (x - p.pages) (by decide) (fun y hy => by
        have := h.good.all y (List.mem_cons_of_mem _ hy)
        omega)
      show _ = out p (levGo (0 + 1) (x - p.pages) (p.counters :: p.levels))
      generalize levGo (0 + 1) (x - p.pages) (p.counters :: p.levels) = q at hin ⊢
      have hin2 : q.1 = -1 ∨ 1 ≤ q.1 := by
        rcases hin with h | h
        · exact .inl h
        · exact .inr h.1
      unfold out
      by_cases e1 : q.1 < 0
      · rw [if_pos e1, if_pos e1]
      · rw [if_neg e1, if_neg e1]
        split
        · rfl
        · rw [if_neg (by omega)]
end Go.Proofs.YtmlladpmecclbaaDoor
/- The reference's Path, of plans that Of made. -/
namespace Go.Proofs.YtmlladpmecclbaaDoor
open Go.RowKit

theorem var_newD (w : World) : Blk (w.alloc (.cells (plc 0 0).toArray 78)) w.heap.size 78 ([] ++ plc 0 0 ++ []) := by
  rw [List.nil_append, List.append_nil]; exact Blk.new rfl
theorem var_growD {w w2 : World} (k : But (· = w.heap.size) (w.alloc (.cells (plc 0 0).toArray 78)) w2) : Grow w w2 :=
  ((But.refl (fun _ => False) w).alloc _).then k (fun j hj e => by omega)
/-- What memory is amid the reference's Path. -/
structure RpM (w wr : World) (gp g7 : Nat) (p : Pn) (v r : Value) (ds : List Int) (pb pa : Int) : Prop where
  box : Blk wr gp 25 (pcells p v)
  up : Blk wr g7 78 (plc pb pa)
  row : wr.ownsRow 0 3 1 r ds.length (numv ds)
  new : ∀ k, r.ownBlock = some k → w.heap.size ≤ k ∧ k ≠ gp ∧ k ≠ g7
  grow : Grow w wr
  ne : gp ≠ g7 ∧ w.heap.size ≤ g7
theorem RpM.then {w wr w' : World} {gp g7 : Nat} {p : Pn} {v r : Value} {ds : List Int} {pb pa : Int} (h : RpM w wr gp g7 p v r ds pb pa) (k : Grow wr w') : RpM w w' gp g7 p v r ds pb pa :=
  ⟨h.box.but k (fun h => h), h.up.but k (fun h => h), ownsRow_grow h.row k, h.new, h.grow.trans k, h.ne⟩
theorem RpM.put {w wr w' : World} {gp g7 : Nat} {p : Pn} {v r : Value} {ds : List Int} {pb pa pb' pa' : Int} (h : RpM w wr gp g7 p v r ds pb pa) (hb : Blk w' g7 78 (plc pb' pa')) (k : But (· = g7) wr w') : RpM w w' gp g7 p v r ds pb' pa' :=
  ⟨h.box.but k h.ne.1, hb, ownsRow_but h.row k (fun j hj e => (h.new j hj).2.2 e), h.new, h.grow.then k (fun j hj e => by have := h.ne.2; omega), h.ne⟩
theorem RpM.app {w wr wa w4 : World} {gp g7 dl : Nat} {p : Pn} {v r v4 : Value} {ds : List Int} {pb pa x : Int} (h : RpM w wr gp g7 p v r ds pb pa) (hd : dl = ds.length) (ha : Grow wr wa) (hap : Appd wa w4 3 1 r v4 (dl + 1) (numv ds ++ numv [x])) : RpM w w4 gp g7 p v v4 (ds ++ [x]) pb pa := by
  have hn : ∀ k, v4.ownBlock = some k → w.heap.size ≤ k ∧ k ≠ gp ∧ k ≠ g7 := fun j hj => by
    rcases hap.at' with e | e
    · exact h.new j (by rw [← e]; exact hj)
    · rw [e] at hj
      have := Option.some.inj hj
      have := ha.size
      have := h.grow.size
      have := h.box.lt
      have := h.up.lt
      exact ⟨by omega, by omega, by omega⟩
  refine ⟨(h.box.but ha (fun h => h)).but hap.but (fun e => (h.new gp e).2.1 rfl), (h.up.but ha (fun h => h)).but hap.but (fun e => (h.new g7 e).2.2 rfl), ?_, hn, (h.grow.trans ha).then hap.but (fun j hj e => by have := (h.new j e).1; omega), h.ne⟩
  rw [List.length_append, List.length_singleton, ← hd, show numv (ds ++ [x]) = numv ds ++ numv [x] by simp [numv]]
  exact hap.own
def slen : Value → Nat
  | .slice _ n _ => n
  | _ => 0
set_option maxRecDepth 100000 in
theorem rpath_not (w : World) (p : Pn) (v : Value) (x : Int) (h : p.has x = false) : Calls Tryd.prog 25 #[pval p v, .int .i64 x] w fun e w' => e = .returned (.tuple #[noS, .int .i64 1]) ∧ Grow w w' := by
  obtain ⟨W, gp, hbx⟩ := box_pl w p v
  have HW := Hid.mk' hbx.ew
  have HGP := Hid.mk' hbx.eg
  have HG := Hid.mk' hbx.grow
  have c0 : W.cell? ⟨gp, 0, none⟩ = some (.int .i64 p.pages) := hbx.blk.cell 0
  have h0 := of_decide_eq_false h
  generalize p.pages = a0 at c0 h0
  unfold pval
  obtain ⟨N, hN⟩ : ∃ N, N = (pcells p v).toArray := ⟨_, rfl⟩
  rw [← hN] at HW ⊢
  clear hbx hN h
  rcases (by omega : x < 0 ∨ (¬ x < 0 ∧ a0 ≤ x)) with h1 | ⟨h1, h2⟩
  all_goals
    clear h0
    go_enter Tryd.func25, Tryd.ntmps25
    go_upto_region 1 with fail
    rw [← HW.out, ← HGP.out]
    clear HW HGP
    go_wp2
    exact bodyPost_ret (results_tmp2 rfl _ _ _) rfl ⟨rfl, HG.out⟩
set_option maxRecDepth 100000 in
set_option maxHeartbeats 2000000 in
theorem rpath_any (w : World) (p : Pn) (v : Value) (x : Int) (hm : Mad p) (h : p.has x = true) (hv : Nums w v p.levels) : Calls Tryd.prog 25 #[pval p v, .int .i64 x] w (PathTo w (p.path x)) := by
  obtain ⟨W, gp, hbx⟩ := box_pl w p v
  have HW := Hid.mk' hbx.ew
  have HGP := Hid.mk' hbx.eg
  have HBX := Hid.mk' hbx
  have HV := Hid.mk' hv
  have HMA := Hid.mk' hm
  have c0 : W.cell? ⟨gp, 0, none⟩ = some (.int .i64 p.pages) := hbx.blk.cell 0
  have h0 := of_decide_eq_true h
  have hpa := hm.path h
  have HPL := Hid.mk' hbx.blk.pl
  have hpg := hm.pg
  obtain ⟨PA, hPA⟩ : ∃ l, l = p.path x := ⟨_, rfl⟩
  rw [← hPA] at hpa ⊢
  have HCH := Hid.mk' hpa.1
  have HPN : Hid (PA.length ≤ 4 ∧ ∀ y ∈ PA, i64 y) := Hid.mk' ⟨by have := hpa.2.len; have := hm.len; omega, fun y hy => by
    have h5 := hpa.2.ge y hy
    have := hm.hd
    have := hm.c1
    have := hm.nd
    have := hm.sum
    unfold i64
    omega⟩
  have HRP : Hid (∀ wz q, Grow w wz → i64 q → Calls Tryd.prog 38 #[pval p v, .int .i64 q] wz fun e w' => e = .returned (p.par q).ret ∧ Grow wz w') := fun wz q kk hq => by
    have h := rparent_any wz p v q hq (hv.grow kk) hm.good
    rw [hm.rpar hq] at h
    exact h
  have hx0 : ¬ x < 0 := by omega
  have HXI : Hid (i64 x) := Hid.mk' (by unfold i64; omega)
  have hx1 : ¬ p.pages ≤ x := by omega
  generalize p.pages = a0 at c0 hx1
  unfold pval at HRP ⊢
  obtain ⟨N, hN⟩ : ∃ N, N = (pcells p v).toArray := ⟨_, rfl⟩
  rw [← hN] at HW HRP ⊢
  have HNE := Hid.mk' hN
  clear hbx hN h h0 hv hm hpa hpg hPA
  go_enter Tryd.func25, Tryd.ntmps25
  go_upto_region 1 with fail
  rw [← HW.out, ← HGP.out]
  clear HW HGP
  have HP0 := Hid.mk' (HRP.out W x HBX.out.grow HXI.out)
  obtain ⟨⟨pb, pa, pe⟩, hpc⟩ : ∃ pc, pc = p.par x := ⟨_, rfl⟩
  rw [← hpc] at HP0
  unfold Pc.ret at HP0
  dsimp only at HP0
  have HPC := Hid.mk' hpc
  clear hpc
  go_wp2_with (first
    | (refine wpList_load_cells rfl _ _ rfl ⟨gp, 0, none⟩ rfl (pcells p v) _ HPL.out Tryd.underlying25 rfl iPl ?_; rw [← HNE.out])
    | fail)
  refine Calls.mono HP0.out ?_
  rintro e w2 ⟨rfl, hg2⟩
  have HB2 := Hid.mk' (HBX.out.blk.but hg2 (fun h => h))
  have HG2 := Hid.mk' (HBX.out.grow.trans hg2)
  clear hg2 HP0 c0 HPL
  go_upto_region 5 with (first
    | (refine wpList_runH rfl (exec_allocF rfl (zPc _)) ?_)
    | (refine wpList_store_at rfl _ _ _ rfl w2.heap.size 0 (plc pb pa) rfl rfl 78 [] (plc 0 0) [] (var_newD w2) rfl rfl iPc (plc_one _ _) ?_; intro w3 hb3 hbut3; rw [List.nil_append, List.append_nil] at hb3)
    | fail)
  obtain ⟨g7, hgg⟩ : ∃ g, g = w2.heap.size := ⟨_, rfl⟩
  have hg3 := var_growD hbut3
  rw [← hgg] at hb3 ⊢
  have HM3 : Hid (RpM w w3 gp g7 p v noS [] pb pa) := Hid.mk' ⟨HB2.out.but hg3 (fun h => h), hb3, World.ownsRow_nil _ _ _ _, (fun k hk => by cases hk), HG2.out.trans hg3, ⟨by have := HB2.out.lt; omega, by have := HG2.out.size; omega⟩⟩
  clear hgg hb3 hbut3 hg3 HB2 HG2
  go_loopw [6, 8] (fun ov ev wr => ∃ (r : Value) (ds rem : List Int) (q pb pa pe : Int), r = ov ∧ ev = .int .i64 pe ∧ PA = ds ++ rem ∧ chn p q rem ∧ (⟨pb, pa, pe⟩ : Pc) = p.par q ∧ RpM w wr gp g7 p v r ds pb pa) (fun ov _ _ => PA.length - slen ov)
  case atStart => exact ⟨noS, [], PA, x, pb, pa, pe, rfl, rfl, rfl, HCH.out, HPC.out, HM3.out⟩
  case round =>
    clear HM3 HPC HCH
    rename_i ov
    obtain ⟨r, ds, rem, q, pb, pa, pe, rfl, rfl, hPA, hch, hpc, hM⟩ := hrel
    have HM := Hid.mk' hM
    have HPA := Hid.mk' hPA
    obtain ⟨ra, rc, hre⟩ := own_sl hM.row
    obtain ⟨dl, hdl⟩ : ∃ n, n = ds.length := ⟨_, rfl⟩
    rw [← hdl] at hre
    have HDL := Hid.mk' hdl
    subst hre
    by_cases he : pe = 0
    · subst he
      obtain ⟨rem', hr, hch'⟩ : ∃ rem', rem = pb :: rem' ∧ chn p pb rem' := by
        cases rem with
        | nil => exact absurd (by rw [← hpc]) hch
        | cons y l =>
          obtain ⟨-, h2, h3⟩ := hch
          rw [← hpc] at h2
          have h4 : pb = y := h2
          rw [h4]
          exact ⟨l, rfl, h3⟩
      subst hr
      have HYI : Hid (i64 pb) := Hid.mk' (HPN.out.2 pb (by rw [HPA.out]; simp))
      have HDB : Hid (dl + 1 ≤ PA.length) := Hid.mk' (by rw [HPA.out, List.length_append, List.length_cons, hdl]; omega)
      have HCH := Hid.mk' hch'
      have c7 : wr.cell? ⟨g7, 0, none⟩ = some (.int .i64 pb) := hM.up.cell 0
      have HAL : Hid (Grow wr (wr.alloc (.cells #[.int .i64 pb] 3))) := (But.refl _ wr).alloc _
      have HBL : Hid (Blk (wr.alloc (.cells #[.int .i64 pb] 3)) wr.heap.size 3 (numv [pb])) := Blk.new (L := numv [pb]) rfl
      have HRW : Hid (wr.ownsRow 0 3 1 (.slice ra dl rc) dl (numv ds)) := Hid.mk' (by rw [hdl]; exact hdl ▸ hM.row)
      clear hPA hch hpc hch' hM hdl
      go_upto_region 7 with (first
        | (refine wpList_runH rfl (exec_row1 (v := .int .i64 pb) Tryd.underlying23 infNum (by decide) (by decide) rfl rfl rfl) ?_)
        | (refine wpList_someH rfl (exec_append (v := .slice ra dl rc) (n := dl) (xs := numv ds) (news := numv [pb]) Tryd.underlying23 infNum rfl (by decide) rfl rfl (ownsRow_grow HRW.out HAL.out) rfl rfl (fun j u hj => HBL.out.cells0 j u hj) (fun u hu => by rw [show u = .int .i64 pb by simpa [numv] using hu]; rfl) (by have := HDB.out; have := HPN.out.1; omega) (by decide)) ?_; intro v4 w4 hap)
        | fail)
      have HM4 := Hid.mk' (HM.out.app HDL.out HAL.out hap)
      obtain ⟨va, vc, e4⟩ := own_sl hap.own
      subst e4
      have c4 : w4.cell? ⟨g7, 0, none⟩ = some (.int .i64 pb) := HM4.out.up.cell 0
      have HP4 := Hid.mk' (HRP.out w4 pb HM4.out.grow HYI.out)
      obtain ⟨⟨qb, qa, qe⟩, hqc⟩ : ∃ pc, pc = p.par pb := ⟨_, rfl⟩
      rw [← hqc] at HP4
      unfold Pc.ret at HP4
      dsimp only at HP4
      have HQC := Hid.mk' hqc
      clear hap hqc c7 HAL HBL HRW HM
      go_wp2_with (first
        | (refine wpList_load_cells rfl _ _ rfl ⟨gp, 0, none⟩ rfl (pcells p v) _ HM4.out.box.pl Tryd.underlying25 rfl iPl ?_; rw [← HNE.out])
        | fail)
      refine Calls.mono HP4.out ?_
      rintro e w5 ⟨rfl, hg5⟩
      have HM5 := Hid.mk' (HM4.out.then hg5)
      clear hg5 HP4 c4 HM4
      go_wp2_with (first
        | (refine wpList_store_at rfl _ _ _ rfl g7 0 (plc qb qa) rfl rfl 78 [] (plc pb pa) [] (by simpa using HM5.out.up) rfl rfl iPc (plc_one _ _) ?_; intro w6 hb6 hbut6; rw [List.nil_append, List.append_nil] at hb6)
        | fail)
      exact ⟨⟨_, ds ++ [pb], rem', pb, qb, qa, qe, rfl, rfl, by rw [HPA.out]; simp, HCH.out, HQC.out, HM5.out.put hb6 hbut6⟩, by show PA.length - (dl + 1) < PA.length - dl; have := HDB.out; omega⟩
    · have hr : rem = [] := by
        cases rem with
        | nil => rfl
        | cons y l =>
          have h2 := hch.1
          rw [← hpc] at h2
          exact absurd h2 he
      have hb : (pe == 0) = false := by simpa using he
      have HE : Hid (PA = ds) := Hid.mk' (by rw [hPA, hr, List.append_nil])
      have HRW : Hid (Own w wr (.slice ra dl rc) ds) := Hid.mk' ⟨hM.row, fun k hk => (hM.new k hk).1⟩
      clear hPA hch hpc hM hdl hr he
      go_wp2
      exact bodyPost_ret (results_tmp2 rfl _ _ _) rfl ⟨_, rfl, by rw [HE.out]; exact HRW.out, HM.out.grow⟩
end Go.Proofs.YtmlladpmecclbaaDoor
/- tree: Build, the loop. -/
namespace Go.Proofs.YtmlladpmecclbaaDoor
open Go.RowKit

/-- What was noted is true, and small. -/
def Hq (Q : List Pr) : Prop := ∀ q ∈ Q, q.2 = digest q.1 ∧ q.1.length ≤ 1000
theorem Hq.app {a b : List Pr} (h : Hq a) (k : Hq b) : Hq (a ++ b) := fun q hq => by
  rcases List.mem_append.1 hq with hq | hq
  · exact h q hq
  · exact k q hq
theorem Hq.note {f : Int} {B : List Bk} (h : ∀ x ∈ B, x.length ≤ 300) : Hq (noteL f B) := fun q hq => by
  obtain ⟨i, x, hx, rfl⟩ := noteL_mem hq
  exact ⟨rfl, by rw [inp_len]; have := h x hx; omega⟩
/-- Memory that is new since w, and nobody's. -/
def Fre (w wr : World) (g : Nat) (own : Owner) : Nat → Prop := fun j => w.heap.size ≤ j ∧ j < wr.heap.size ∧ own j = .none ∧ j ≠ g
theorem Fre.on {w wr w' : World} {g : Nat} {own own' : Owner} (hs : wr.heap.size ≤ w'.heap.size) (hf : Fresh wr own own') : ∀ j, Fre w wr g own j → Fre w w' g own' j := fun j h => ⟨h.1, Nat.lt_of_lt_of_le h.2.1 hs, by
  by_cases hq : own' j = own j
  · rw [hq]; exact h.2.2.1
  · exact absurd (hf j hq) (by have := h.2.1; omega), h.2.2.2⟩
structure BdJ (w : World) (own : Owner) (lv : Value) (P : List Pr) (p : Pn) (C : List Bk) (Z : List Value) (g7 : Nat) (xv : Value) (f : Int) (kv : Value) (wr : World) (own' : Owner) (Q : List Pr) (A B : List Bk) (ls : List Int) (L : List BE) : Prop where
  ext : Ext own own'
  fresh : Fresh w own own'
  lg : LgO wr own' lv (P ++ Q)
  hq : Hq Q
  ql : Q.length = A.length + B.length
  but : But (fun b => own b ≠ .none) w wr
  var : Blk wr g7 31 Z
  vn : own' g7 = .none
  vlo : w.heap.size ≤ g7
  kids : RowOf wr (Fre w wr g7 own') 31 32 kv B.length ((bdL f B).flatMap u8s)
  nodes : BRow wr (Fre w wr g7 own') (fun j => Fre w wr g7 own' j ∧ xv.ownBlock ≠ some j) xv L
  eq : L.map (·.2) ++ bldL f B ls = bldL p.pages C p.levels
  sfx : C ++ L.map (·.2) = A ++ B
  ok : okB B
  pos : 1 ≤ B.length
  first : f = p.pages + A.length
  sum : f + B.length + sm ls = p.head
  lev : (L = [] ∧ Lvl B.length ls) ∨ (L ≠ [] ∧ ls = [] ∧ B.length = 1) ∨ (L ≠ [] ∧ 1 < B.length ∧ Lvl B.length ls)
theorem BdJ.step {w wr w1 w4 w5 : World} {own own' : Owner} {lv : Value} {P : List Pr} {p : Pn} {C : List Bk} {Z : List Value} {g7 : Nat} {xv kv v4 kv' lvv : Value} {f a : Int} {Q : List Pr} {A B : List Bk} {ls : List Int} {L : List BE}
    (h : BdJ w own lv P p C Z g7 xv f kv wr own' Q A B (a :: ls) L) (ha : a = ((B.length : Int) + 7) / 8) (hl : (ls = [] ∧ a = 1) ∨ (1 < a ∧ Lvl a ls)) (hg : Grow wr w1) (V : Nat → Value)
    (hV : BRow w1 (fun j => wr.heap.size ≤ j ∧ j < w1.heap.size) (fun j => wr.heap.size ≤ j ∧ j < w1.heap.size) lvv ((List.range ((B.length + 7) / 8)).map fun i => (V i, abv (bdL f B) B.length i)))
    (hap : Appd w1 w4 22 1 xv v4 (L.length + (B.length + 7) / 8) (L.map (·.1) ++ (List.range ((B.length + 7) / 8)).map V))
    (hd : DgTo w4 own' lv ((P ++ Q) ++ noteL (f + B.length) (upL f B)) kv' (bdL (f + B.length) (upL f B)) w5) (hok : okB (upL f B)) :
    ∃ own'' Q' L', BdJ w own lv P p C Z g7 v4 (f + B.length) kv' w5 own'' Q' (A ++ B) (upL f B) ls L' ∧ L'.length = L.length + (B.length + 7) / 8 := by
  obtain ⟨own'', q1, q2, q3, q4⟩ := hd.ex
  have hUl : (upL f B).length = (B.length + 7) / 8 := upL_len f B
  have hs1 := hg.size
  have hs4 := hap.but.size
  have hs5 := hd.but.size
  have hs0 := h.but.size
  obtain ⟨E, hE⟩ : ∃ E : List BE, E = (List.range ((B.length + 7) / 8)).map fun i => (V i, abv (bdL f B) B.length i) := ⟨_, rfl⟩
  have hE1 : E.map (·.1) = (List.range ((B.length + 7) / 8)).map V := by rw [hE, List.map_map]; rfl
  have hE2 : E.map (·.2) = upL f B := by rw [hE, List.map_map]; rfl
  have hEl : E.length = (B.length + 7) / 8 := by rw [hE]; simp
  have hxF : ∀ j, xv.ownBlock = some j → Fre w wr g7 own' j := h.nodes.row.inF
  have hvF : g7 < wr.heap.size := h.var.lt
  have htop := h.lg.top
  have hF1 : ∀ j, wr.heap.size ≤ j → own' j = .none := htop
  have hFre4 : ∀ j, Fre w wr g7 own' j → Fre w w5 g7 own'' j := fun j hj => by
    refine Fre.on (wr := w4) hs5 q2 j ⟨hj.1, ?_, hj.2.2.1, hj.2.2.2⟩
    have := hj.2.1; omega
  have hnewF : ∀ j, wr.heap.size ≤ j → j < w1.heap.size → Fre w w5 g7 own'' j := fun j hj1 hj2 => by
    refine Fre.on (wr := w4) hs5 q2 j ⟨by omega, by omega, hF1 j hj1, by omega⟩
  have hv4F : ∀ j, v4.ownBlock = some j → Fre w w5 g7 own'' j := fun j hj => by
    rcases hap.at' with e | e
    · rw [e] at hj; exact hFre4 j (hxF j hj)
    · rw [e] at hj
      cases hj
      refine Fre.on (wr := w4) hs5 q2 _ ⟨by omega, hap.lt _ e, hF1 _ hs1, by omega⟩
  have hnn : ∀ j, Fre w w5 g7 own'' j → j < w4.heap.size → own' j = .none := fun j hj hl => by
    by_cases hq : own'' j = own' j
    · rw [← hq]; exact hj.2.2.1
    · exact absurd (q2 j hq) (by omega)
  refine ⟨own'', Q ++ noteL (f + B.length) (upL f B), L ++ E, ?_, by rw [List.length_append, hEl]⟩
  refine ⟨h.ext.trans q1, fun b hb => ?_, by rw [← List.append_assoc]; exact q3, h.hq.app (Hq.note (fun x hx => by have := (hok x hx).1; omega)), ?_, ?_, ?_, ?_, h.vlo, ?_, ?_, ?_, ?_, hok, ?_, ?_, ?_, ?_⟩
  · by_cases hq : own' b = own b
    · have := q2 b (by rw [hq]; exact hb); omega
    · exact h.fresh b hq
  · rw [List.length_append, noteL_len, h.ql, List.length_append]
  · refine ((h.but.trans (hg.mono (fun _ _ h => h.elim))).then hap.but (fun i hi e => ?_)).then hd.but (fun i hi e => ?_)
    · have := (hxF i e).1; omega
    · by_cases hq : own' i = own i
      · rw [← hq]; exact e
      · exact absurd (h.fresh i hq) (by omega)
  · exact ((h.var.but hg (fun h => h)).but hap.but (fun e => (hxF _ e).2.2.2 rfl)).but hd.but (fun e => e h.vn)
  · by_cases hq : own'' g7 = own' g7
    · rw [hq]; exact h.vn
    · exact absurd (q2 g7 hq) (by omega)
  · refine ⟨by have := hd.row; rw [bdL_len] at this; exact this, fun k hk => ?_⟩
    have h1 := q4 k hk
    refine ⟨by omega, ?_, h1.2, by omega⟩
    exact (hd.row.lt k hk).2
  · refine ⟨⟨?_, hv4F⟩, fun e he => ?_⟩
    · rw [List.length_append, hEl, List.map_append, hE1]
      exact ownsRow_but hap.own hd.but (fun j hj e => e (hnn j (hv4F j hj) (hap.lt j hj)))
    · have hv41 : ∀ j, v4.ownBlock = some j → xv.ownBlock = some j ∨ w1.heap.size ≤ j := fun j hj => by
        rcases hap.at' with e | e
        · exact .inl (by rw [← e]; exact hj)
        · rw [e] at hj; cases hj; exact .inr (Nat.le_refl _)
      have hgo : ∀ j, (Fre w wr g7 own' j ∨ (wr.heap.size ≤ j ∧ j < w1.heap.size)) → xv.ownBlock ≠ some j → Fre w w5 g7 own'' j ∧ v4.ownBlock ≠ some j := fun j hj hx => by
        refine ⟨?_, fun e => ?_⟩
        · rcases hj with hj | hj
          · exact hFre4 j hj
          · exact hnewF j hj.1 hj.2
        · rcases hv41 j e with e2 | e2
          · exact hx e2
          · rcases hj with hj | hj
            · have := hj.2.1; omega
            · omega
      have key : ∀ e : BE, Bf w1 (fun j => (Fre w wr g7 own' j ∨ (wr.heap.size ≤ j ∧ j < w1.heap.size)) ∧ xv.ownBlock ≠ some j) e.1 e.2 → Bf w5 (fun j => Fre w w5 g7 own'' j ∧ v4.ownBlock ≠ some j) e.1 e.2 := fun e hx => by
        have h4 := hx.but hap.but (fun j hj e9 => hj.2 e9)
        have h5 : Bf w4 (fun j => Fre w w5 g7 own'' j ∧ v4.ownBlock ≠ some j) e.1 e.2 := ⟨h4.1, fun h0 j hj => hgo j (h4.2 h0 j hj).1 (h4.2 h0 j hj).2⟩
        have h6 : Bf w4 (fun j => own' j = .none) e.1 e.2 := ⟨h4.1, fun h0 j hj => by
          rcases (h4.2 h0 j hj).1 with h9 | h9
          · exact h9.2.2.1
          · exact hF1 j h9.1⟩
        exact ⟨(h6.but hd.but (fun j hj e9 => e9 hj)).1, h5.2⟩
      rcases List.mem_append.1 he with he | he
      · have hx := (h.nodes.el e he).but hg (fun _ _ h => h)
        exact key e ⟨hx.1, fun h0 j hj => ⟨.inl (hx.2 h0 j hj).1, (hx.2 h0 j hj).2⟩⟩
      · rw [hE] at he
        have hx := hV.el e he
        refine key e ⟨hx.1, fun h0 j hj => ⟨.inr (hx.2 h0 j hj), fun e9 => ?_⟩⟩
        have h1 := (hx.2 h0 j hj).1
        have h2 := (hxF j e9).2.1
        omega
  · rw [List.map_append, hE2, List.append_assoc]
    have := h.eq
    rw [show bldL f B (a :: ls) = upL f B ++ bldL (f + B.length) (upL f B) ls by rfl] at this
    exact this
  · rw [List.map_append, hE2, ← List.append_assoc, h.sfx]
  · omega
  · rw [h.first, List.length_append]; omega
  · have := h.sum
    rw [show sm (a :: ls) = a + sm ls by rfl] at this
    omega
  · have hne : L ++ E ≠ [] := fun e => by
      have := congrArg List.length e
      rw [List.length_append, hEl] at this
      have := h.pos
      simp at *
      omega
    have hUa : ((upL f B).length : Int) = a := by omega
    rcases hl with ⟨h1, h2⟩ | ⟨h1, h2⟩
    · exact .inr (.inl ⟨hne, h1, by omega⟩)
    · exact .inr (.inr ⟨hne, by omega, by rw [hUa]; exact h2⟩)
end Go.Proofs.YtmlladpmecclbaaDoor
/- tree: Build, the walk. -/
namespace Go.Proofs.YtmlladpmecclbaaDoor
open Go.RowKit

def rootOf (p : Pn) (C : List Bk) : List Nat := bd (p.head - 1) ((treeOf p C).getD ((treeOf p C).length - 1) [])
/-- What a Build leaves. -/
structure BldTo (w : World) (own : Owner) (lv : Value) (P : List Pr) (p : Pn) (C : List Bk) (v : Value) (w' : World) : Prop where
  but : But (fun b => own b ≠ .none) w w'
  ex : ∃ own' Q L, Ext own own' ∧ Fresh w own own' ∧ LgO w' own' lv (P ++ Q) ∧ Hq Q ∧ Q.length ≤ 5000 ∧
    BRow w' (fun j => w.heap.size ≤ j ∧ own' j = .none) (fun j => w.heap.size ≤ j ∧ own' j = .none) v L ∧ L.map (·.2) = bldL p.pages C p.levels
theorem exec_storeA {w : World} {o : Oper} {ρ : Operand → Value} {T : TypeId} {n : Nat} (hi : (Tryd.prog.info? T).map (·.size) = some n) {x y : Operand} (ho : o.op = .store T x y) {g : Nat} {D : List Nat} {L : List Value} {v : Value} (hx : ρ x = .pointer (some ⟨g, 0, none⟩)) (hy : ρ y = v) (hv : v = .agg (u8s D).toArray) (hD : D.length = n) (hL : L.length = n) (hb : Blk w g T L) :
    ∃ w', (execOp ρ o).run Tryd.prog w = .ok .skip w' ∧ Blk w' g T (u8s D) ∧ But (· = g) w w' := by
  subst hv
  obtain ⟨w', hr, hbl, hbt⟩ := run_storeVar_at w g 0 T T [] L [] (u8s D) (by simpa using hb) rfl (by simp [u8s, hD, hL]) (by rw [hi]; simp [u8s, hD]) (u8s_one _)
  refine ⟨w', ?_, by simpa using hbl, hbt⟩
  unfold execOp
  simp only [ho, hx, hy, Instr.storeAt, Instr.sureAddr, Sem.run_bind, Sem.run_pure, Result.andThen_ok, hr]
theorem turn_storeA {w : World} {o : Oper} {ρ : Operand → Value} {T : TypeId} {n : Nat} (hi : (Tryd.prog.info? T).map (·.size) = some n) {x y : Operand} (ho : o.op = .store T x y) {g : Nat} {D : List Nat} {L : List Value} {v : Value} {K' : Value → World → Prop} (hx : ρ x = .pointer (some ⟨g, 0, none⟩)) (hy : ρ y = v) (hv : v = .agg (u8s D).toArray) (hD : D.length = n) (hL : L.length = n) (hb : Blk w g T L)
    (hk : ∀ w', Blk w' g T (u8s D) → But (· = g) w w' → K' undef w') : ∃ u w', ((execOp ρ o).run Tryd.prog w = .ok (.value u) w' ∨ ((execOp ρ o).run Tryd.prog w = .ok .skip w' ∧ u = undef)) ∧ K' u w' := by
  obtain ⟨w', h1, h2, h3⟩ := exec_storeA hi ho hx hy hv hD hL hb
  exact ⟨undef, w', .inr ⟨h1, rfl⟩, hk w' h2 h3⟩
/-- The level that was made is there for its digests. -/
theorem BdJ.there {w wr w1 w4 : World} {own own' : Owner} {lv : Value} {P : List Pr} {p : Pn} {C : List Bk} {Z : List Value} {g7 : Nat} {xv kv v4 lvv v : Value} {f : Int} {Q : List Pr} {A B : List Bk} {ls : List Int} {L : List BE} {e n : Nat} {xs : List Value} {U : List Bk}
    (h : BdJ w own lv P p C Z g7 xv f kv wr own' Q A B ls L) (hst : ∀ w', But (fun b => own b ≠ .none) w w' → Kw w' ∧ Hw w' ∧ Ps w' v C) (hg : Grow wr w1) (hU : ∃ E, BRow w1 (fun j => wr.heap.size ≤ j ∧ j < w1.heap.size) (fun j => wr.heap.size ≤ j ∧ j < w1.heap.size) lvv E ∧ E.map (·.2) = U)
    (hap : Appd w1 w4 e 1 xv v4 n xs) : ∀ w', But (fun b => own' b ≠ .none) w4 w' → Kw w' ∧ Hw w' ∧ Ps w' lvv U := fun w' k => by
  have hs0 := h.but.size
  have hs1 := hg.size
  have hs4 := hap.but.size
  have hx := h.nodes.row.inF
  obtain ⟨a, b, _⟩ := hst w' (((h.but.trans (hg.mono (fun _ _ h => h.elim))).then hap.but (fun i hi e => by have := (hx i e).1; omega)).then k (fun i hi e => by
    by_cases hq : own' i = own i
    · rw [← hq]; exact e
    · exact absurd (h.fresh i hq) (by omega)))
  refine ⟨a, b, ?_⟩
  obtain ⟨E, hE, e2⟩ := hU
  have h4 : BRow w4 (fun j => wr.heap.size ≤ j) (fun j => wr.heap.size ≤ j) lvv E := hE.but (R := fun b => wr.heap.size > b) ⟨hap.but.os, hap.but.tape, hap.but.output, hap.but.size, fun i hi hn => hap.but.block i hi (fun e9 => hn (hx i e9).2.1)⟩ (fun j hj e9 => by omega) (fun j hj e9 => by omega) (fun j hj => hj.1) (fun j hj => hj.1)
  have h5 : BRow w' (fun j => wr.heap.size ≤ j) (fun j => wr.heap.size ≤ j) lvv E := h4.but k (fun j hj e9 => e9 (h.lg.top j hj)) (fun j hj e9 => e9 (h.lg.top j hj)) (fun _ h => h) (fun _ h => h)
  rw [← e2]
  exact h5.ps
theorem Lvl.sm0 : ∀ {ls : List Int} {m : Int}, 0 ≤ m → Lvl m ls → 0 ≤ sm ls
  | [], _, _, h => h.elim
  | [a], m, hm, h => by
    have h1 := h.1
    unfold sm sm
    omega
  | a :: b :: ls, m, hm, h => by
    have h1 := h.1
    have h2 := Lvl.sm0 (by have := h.2.1; omega) h.2.2
    rw [show sm (a :: b :: ls) = a + sm (b :: ls) by rfl]
    omega
set_option maxRecDepth 100000 in
set_option maxHeartbeats 16000000 in
theorem build_any {w : World} {own : Owner} {lv v : Value} {P : List Pr} {p : Pn} {pv : Value} {C : List Bk} (h : LgO w own lv P) (hm : Mad p) (hlv : Lvl p.counters p.levels) (hst : ∀ w', But (fun b => own b ≠ .none) w w' → Kw w' ∧ Hw w' ∧ Ps w' v C)
    (hn : (C.length : Int) = p.counters) (hok : okB C) (hP : P.length ≤ 50000) :
    Calls Tryd.prog 8 #[lv, pval p pv, v] w fun e w' => ∃ v', e = .returned (.tuple #[v', dkey (rootOf p C), .int .i64 0]) ∧ BldTo w own lv P p C v' w' := by
  obtain ⟨Z, hZ⟩ : ∃ Z, Z = u8s z32 := ⟨_, rfl⟩
  have hz := z32v
  rw [← hZ] at hz
  have HZL : Hid (Z.length = 32) := by show _ = _; rw [hZ]; rfl
  obtain ⟨W0, W1, gp, g7, hM⟩ := bd_begin w p pv Z
  have HM := Hid.mk' hM
  have hpg := hm.pg
  have hc1 := hm.c1
  have hnd := hm.nd
  have hhd := hm.hd
  have hsm := hm.sum
  have hsp := (LvC.pos hc1.1 hm.lv).2
  have HSUM : Hid (p.pages + p.counters + sm p.levels = p.head ∧ p.head ≤ 5000 ∧ 1 ≤ p.pages ∧ 1 ≤ p.counters) := by
    show _ ∧ _ ∧ _ ∧ _
    omega
  have c0 : W1.cell? ⟨gp, 0, none⟩ = some (.int .i64 p.pages) := hM.box.cell 0
  have c2 : W1.cell? ⟨gp, 2, none⟩ = some (.int .i64 p.counters) := hM.box.cell 2
  have hG1 : But (fun b => own b ≠ .none) w W1 := hM.grow.mono (fun _ _ h => h.elim)
  have HWH := Hid.mk' (whole_any (hst W1 hG1).2.2 (by omega))
  rw [whl_of (fun x hx => (hok x hx).1)] at HWH
  have HTOP := Hid.mk' h.top
  have htop1 : Fresh w own own := Fresh.refl _ _
  have hst1 : ∀ w', But (fun b => own b ≠ .none) W1 w' → Kw w' ∧ Hw w' ∧ Ps w' v C := fun w' k => hst w' (hG1.trans k)
  have HD0 := Hid.mk' (digests_any (h.grow hM.grow) hst1 (fun x hx => by have := (hok x hx).1; omega) (by omega) (f := p.pages) (by omega) (by omega))
  have HST := Hid.mk' hst
  have HOK := Hid.mk' hok
  have HLV := Hid.mk' hlv
  have HCN := Hid.mk' hn
  have HPL := Hid.mk' hP
  obtain ⟨a0, vc, hve⟩ : ∃ a0 c, v = .slice a0 C.length c := by obtain ⟨a, c, e, _⟩ := (hst w (But.refl _ _)).2.2.gen; exact ⟨a, c, e⟩
  obtain ⟨D, hD⟩ : ∃ D, D = rootOf p C := ⟨_, rfl⟩
  have HDD := Hid.mk' hD
  have HDW : Hid (D.length = 32) := by show _ = _; rw [hD]; exact bd_len _ _
  rw [← hD]
  have HHD : Hid (p.head = p.pages + (treeOf p C).length) := by
    show _ = _
    have := treeOf_len hm hn hok
    omega
  rw [← hn] at c2
  obtain ⟨pg, hpge⟩ : ∃ pg, pg = p.pages := ⟨_, rfl⟩
  rw [← hpge] at c0 HD0
  have HPG := Hid.mk' hpge
  obtain ⟨cl, hcl⟩ : ∃ cl, cl = C.length := ⟨_, rfl⟩
  rw [← hcl] at c2 hve
  have h00 : ((cl : Int) == 0) = false := by
    have : (cl : Int) ≠ 0 := by omega
    simpa using this
  subst hve
  unfold pval
  obtain ⟨N, hN⟩ : ∃ N, N = (pcells p pv).toArray := ⟨_, rfl⟩
  have hE0 := hM.e0
  rw [← hN] at hE0
  have HE0 := Hid.mk' hE0
  rw [← hN]
  have HCL := Hid.mk' hcl
  clear hM hZ hN hE0 hn h hm hlv hst hst1 hok hP hG1 hpg hc1 hnd hhd hsm hsp htop1 hD hpge hcl
  go_enter Tryd.func8, Tryd.ntmps8
  go_upto_region 1 with fail
  rw [← HE0.out, ← HM.out.e1, ← HM.out.e7, ← HM.out.ep]
  go_wp2_with fail
  refine Calls.mono HWH.out ?_
  rintro e w1 ⟨rfl, hw⟩
  have h2 := hw.symm
  subst h2
  clear hw
  go_wp2_with fail
  refine Calls.mono HD0.out ?_
  rintro e w2 ⟨k0, rfl, hd0⟩
  have hj0 : BdJ w own lv P p C Z g7 (.slice none 0 0) pg k0 w2 hd0.ex.choose (noteL pg C) [] C p.levels [] := by
    obtain ⟨q1, q2, q3, q4⟩ := hd0.ex.choose_spec
    generalize hd0.ex.choose = own2 at *
    have hs1 := HM.out.grow.size
    refine ⟨q1, fun b hb => Nat.le_trans hs1 (q2 b hb), q3, Hq.note (fun x hx => by have := (HOK.out x hx).1; omega), by rw [noteL_len]; simp, (HM.out.grow.mono (fun _ _ h => h.elim)).trans hd0.but, HM.out.var.but hd0.but (fun e => e (HTOP.out g7 (by have := HM.out.low; omega))), ?_, by have := HM.out.low; omega, ?_, BRow.nil _ _ _, by rw [HPG.out]; rfl, by simp, HOK.out, by have := HSUM.out; have := HCN.out; omega, by rw [HPG.out]; simp, by have := HSUM.out; have := HCN.out; rw [HPG.out]; omega, .inl ⟨rfl, by rw [HCN.out]; exact HLV.out⟩⟩
    · by_cases hq : own2 g7 = own g7
      · rw [hq]; exact HTOP.out g7 (by have := HM.out.low; omega)
      · exact absurd (q2 g7 hq) (by have := HM.out.var.lt; omega)
    · refine ⟨by have := hd0.row; rw [bdL_len] at this; exact this, fun k hk => ?_⟩
      have h1 := q4 k hk
      exact ⟨by omega, (hd0.row.lt k hk).2, h1.2, by have := HM.out.var.lt; omega⟩
  generalize hd0.ex.choose = own2 at hj0
  have HJ0 := Hid.mk' hj0
  obtain ⟨ka, kc, hke⟩ := own_sl hj0.kids.own
  rw [← HCL.out] at hke
  subst hke
  clear hj0 hd0 HD0 HWH HTOP HLV
  go_upto_region 8 with fail
  go_loopw [9, 10, 11] (fun xv fv kv wr => ∃ (r : Value) (f : Int) (q : Value) (own' : Owner) (Q : List Pr) (A B : List Bk) (ls : List Int) (L : List BE), r = xv ∧ fv = .int .i64 f ∧ q = kv ∧ BdJ w own lv P p C Z g7 r f q wr own' Q A B ls L) (fun xv _ _ _ => 10000 - slen xv)
  case atStart => exact ⟨_, _, _, _, _, _, _, _, _, rfl, rfl, rfl, HJ0.out⟩
  case round =>
    obtain ⟨r, f, q, own', Q, A, B, ls, L, hr, rfl, hq, hj⟩ := hrel
    subst hr hq
    have HJ := Hid.mk' hj
    clear HJ0
    obtain ⟨ra, rc, hre⟩ := own_sl hj.nodes.row.own
    obtain ⟨qa, qc, hqe⟩ := own_sl hj.kids.own
    have h1 := congrArg List.length hj.sfx
    rw [List.length_append, List.length_append, List.length_map] at h1
    have h2 := hj.first
    have h3 := hj.sum
    have h4 := HSUM.out
    have h5 := hj.pos
    have hsm0 : 0 ≤ sm ls := by
      rcases hj.lev with ⟨-, h⟩ | ⟨-, h, -⟩ | ⟨-, -, h⟩
      · exact h.sm0 (by omega)
      · rw [h]; exact Int.le_refl _
      · exact h.sm0 (by omega)
    have hf0 : 0 ≤ f := by omega
    have hf1 : f ≤ 5000 := by omega
    obtain ⟨bl, hbl'⟩ : ∃ bl, bl = B.length := ⟨_, rfl⟩
    obtain ⟨ln, hln'⟩ : ∃ ln, ln = L.length := ⟨_, rfl⟩
    have HBL : Hid (B.length = bl) := hbl'.symm
    have HLN : Hid (L.length = ln) := hln'.symm
    have HAQ : Hid (A.length + B.length ≤ 5000) := by show _ ≤ _; omega
    have hbl : bl ≤ 5000 := by omega
    have hlb : ln ≤ 5000 := by omega
    have hbp : 1 ≤ bl := by omega
    rw [← hbl'] at hqe
    rw [← hln'] at hre
    have hlev := hj.lev
    rw [← hbl'] at hlev
    clear h1 h2 h3 h4 h5 hsm0 hbl' hln' hj
    subst hre hqe
    rcases hlev with ⟨hL, hl⟩ | ⟨hL, hls, hb1⟩ | ⟨hL, hb1, hl⟩
    · obtain ⟨a, ls', rfl, ha, hl2⟩ := hl.head
      have HHA : Hid (a = ((B.length : Int) + 7) / 8) := by show _ = _; rw [HBL.out]; exact ha
      have HHL := Hid.mk' hl2
      have hln0 : ln = 0 := by rw [← HLN.out, hL]; rfl
      have hlnb : ((ln : Int) == 0) = true := by rw [hln0]; rfl
      clear ha hl2 hl hL hln0
      · go_upto_region 9 with fail
        have HAB := Hid.mk' (above_any (F := Fre w wr g7 own') (v := .slice qa bl qc) (L := bdL f B) (by rw [bdL_len]; exact HJ.out.kids) bdL_wf (by rw [bdL_len, HBL.out]; omega))
        go_wp2_with fail
        refine Calls.mono HAB.out ?_
        rintro e w1 ⟨lvv, G, rfl, hnb, hg1⟩
        rw [bdL_len] at hnb
        obtain ⟨V, hV⟩ := hnb.brow (F := fun j => wr.heap.size ≤ j ∧ j < w1.heap.size) (fun j h1 h2 => ⟨h1, h2⟩)
        have HNB := Hid.mk' hnb
        have HV := Hid.mk' hV
        have HG1 := Hid.mk' hg1
        obtain ⟨m, hm⟩ : ∃ m, m = (B.length + 7) / 8 := ⟨_, rfl⟩
        have HM2 := Hid.mk' hm
        have hm1 : 1 ≤ m := by have := HJ.out.pos; omega
        have hrow := hV.row
        rw [List.length_map, List.length_range, List.map_map, ← hm] at hrow
        have HROW := Hid.mk' hrow
        obtain ⟨na, nc, hne, hcel⟩ := hrow.shape
        obtain ⟨nb, rfl, -, -, hcc⟩ := hcel (by omega)
        subst hne
        have HCC : Hid (∀ j u, ((List.range m).map V)[j]? = some u → w1.cell? ((⟨nb, 0, none⟩ : Addr).add j) = some u) := fun j u hj => by rw [addr_add, Nat.zero_add]; exact hcc j u hj
        have HON : Hid (∀ u ∈ (List.range m).map V, u.oneCell' = true) := fun u hu => by
          obtain ⟨i, hi, rfl⟩ := List.mem_map.1 hu
          have := (HV.out.el (V i, abv (bdL f B) B.length i) (List.mem_map.2 ⟨i, by rw [← HM2.out]; exact hi, rfl⟩)).1
          exact this.one
        have HNR : Hid (w1.ownsRow 0 22 1 (.slice ra ln rc) ln (L.map (·.1))) := by
          have := ownsRow_grow HJ.out.nodes.row.own hg1
          rw [HLN.out] at this
          exact this
        clear hcel hcc hrow hV hnb hg1 hm HAB
        go_upto_region 11 with (first
          | (refine wpList_someH rfl (exec_append (v := .slice ra ln rc) (n := ln) (xs := L.map (·.1)) (news := (List.range m).map V) (ad := ⟨nb, 0, none⟩) (m := m) (c := nc) Tryd.underlying26 infS rfl (by decide) rfl rfl HNR.out rfl (by simp) HCC.out HON.out (by have := HM2.out; have := HBL.out; omega) (by decide)) ?_; intro v4 w4 hap)
          | fail)
        have HAP : Hid (Appd w1 w4 22 1 (.slice ra ln rc) v4 (L.length + (B.length + 7) / 8) (L.map (·.1) ++ (List.range ((B.length + 7) / 8)).map V)) := by
          show Appd _ _ _ _ _ _ _ _
          rw [HLN.out, ← HM2.out]; exact hap
        have HU : ∃ E, BRow w1 (fun j => wr.heap.size ≤ j ∧ j < w1.heap.size) (fun j => wr.heap.size ≤ j ∧ j < w1.heap.size) (.slice (some ⟨nb, 0, none⟩) m nc) E ∧ E.map (·.2) = upL f B := ⟨_, HV.out, by rw [List.map_map]; rfl⟩
        have hth := HJ.out.there HST.out HG1.out HU HAP.out
        have hlg4 : LgO w4 own' lv (P ++ Q) := (HJ.out.lg.grow HG1.out).but HAP.out.but (fun b hb e9 => hb (HJ.out.nodes.row.inF b e9).2.2.1)
        have HDG := Hid.mk' (digests_any hlg4 hth (fun x hx => by have := (upL_ok f B x hx).1; omega) (by rw [List.length_append, upL_len, HJ.out.ql]; have := HPL.out; have := HAQ.out; have := HBL.out; omega) (f := f + (bl : Int)) (by omega) (by omega))
        obtain ⟨va, vc4, hv4⟩ := own_sl HAP.out.own
        clear hap HU hth hlg4 HNR HCC HON
        go_wp2_with fail
        refine Calls.mono HDG.out ?_
        rintro e w5 ⟨kv5, rfl, hdg⟩
        rw [← HBL.out] at hdg
        obtain ⟨own5, Q5, L5, hj5, hl5⟩ := HJ.out.step HHA.out HHL.out HG1.out V HV.out HAP.out hdg (upL_ok f B)
        rw [HBL.out] at hj5
        have HJ5 := Hid.mk' hj5
        clear hdg hj5 HDG HAP
        go_wp2
        refine ⟨⟨v4, f + (bl : Int), kv5, own5, Q5, _, _, _, L5, ?_, ?_, rfl, HJ5.out⟩, ?_⟩
        · exact hv4
        · go_num
        · have q1 := HLN.out
          have q2 := HM2.out
          simp only [slen]
          simp
          omega
    · have hlnb : ((ln : Int) == 0) = false := by
        have : (ln : Int) ≠ 0 := fun e => hL (List.eq_nil_of_length_eq_zero (by rw [HLN.out]; omega))
        simpa using this
      obtain ⟨x, hx⟩ : ∃ x, B = [x] := List.length_eq_one_iff.1 (by rw [HBL.out]; exact hb1)
      subst hb1
      have hhead : f = p.head - 1 := by
        have h3 := HJ.out.sum
        rw [hls, HBL.out] at h3
        have : sm [] = 0 := rfl
        omega
      have htree : treeOf p C = A ++ [x] := by
        have h1 := HJ.out.eq
        rw [hls, show bldL f B [] = [] by rfl, List.append_nil] at h1
        unfold treeOf
        rw [← h1, HJ.out.sfx, hx]
      have hDx : bd f x = D := by
        rw [HDD.out, rootOf, htree, ← hhead, getD_app_right (by simp)]
        simp
      have hrow := HJ.out.kids
      rw [hx] at hrow
      obtain ⟨ao', cap', he, hcel⟩ := hrow.shape
      simp only [Value.slice.injEq] at he
      obtain ⟨rfl, -, rfl⟩ := he
      obtain ⟨kb, rfl, hkF, hkl, hcc⟩ := hcel (by simp)
      have hfl : (bdL f [x]).flatMap u8s = u8s D := by
        show (u8s (bd f x) ++ []) = _
        rw [List.append_nil, hDx]
      rw [hfl] at hcc
      have HCC : Hid (∀ j u, (u8s D)[j]? = some u → wr.cell? ((⟨kb, 0, none⟩ : Addr).add j) = some u) := fun j u hj => by rw [addr_add, Nat.zero_add]; exact hcc j u hj
      have HKG : Hid (kb ≠ g7) := hkF.2.2.2
      have HKL := Hid.mk' hkl
      obtain ⟨M, hM⟩ : ∃ M, M = (u8s D).toArray := ⟨_, rfl⟩
      have HMM := Hid.mk' hM
      have HLS := Hid.mk' hls
      clear hcel hcc hrow hkF hkl hfl hhead htree hDx hls hM hL hx
      go_upto_region 13 with fail
      refine region_chain [([0, 1, 2, 3, 4], 5)] [6] (fun w' => But (· = g7) wr w') (Grow wr) (by kernel_rfl) (by kernel_rfl) (fun _ _ h k => h.trans k) (fun _ h => h.mono (fun _ _ h => h.elim)) ((But.refl _ wr).drew) ?_
      intro ι hne X hX
      iterate 3 (refine still_step rfl (fun K hK => ?_); go_simp; refine hK _ ?_; clear hK K)
      refine still_val rfl (.agg M) rfl (fun x => by rw [HMM.out]; exact run_load_arr ukt i32 (fun j u hj => by have h9 := HCC.out j u hj; rw [addr_add, Nat.zero_add] at h9 ⊢; exact (World.cell?_of_block ((hX x).block kb HKL.out HKG.out)).trans h9) HDW.out rfl rfl) ?_
      intro K hK; go_simp; refine hK _ ?_; clear hK K
      refine still_step rfl (fun K hK => ?_); go_simp; refine hK _ ?_; clear hK K
      refine still_nil ?_
      clear hX hne
      refine turn_run rfl rfl (fun _ w' => Blk w' g7 31 (u8s D) ∧ But (· = g7) wr w') (fun _ w' => But (· = g7) wr w') (fun _ w1 w2 h k => ⟨h.1.but k (fun h => h), h.2.trans (k.mono (fun _ _ h => h.elim))⟩) (fun _ _ h => h.2) (.inr (fun _ _ h => h)) ?_ ?_
      · intro w6 hw6
        exact turn_storeA (D := D) (L := Z) (v := .agg M) i32 rfl rfl rfl (by rw [HMM.out]) HDW.out HZL.out (HJ.out.var.but hw6 (fun h => h)) (fun w7 hb7 hk7 => ⟨hb7, (hw6.mono (fun _ _ h => h.elim)).trans hk7⟩)
      · rintro z - Y hY
        go_simp
        refine hY _ ?_
        clear hY Y
        intro ι hne X hX
        refine still_step rfl (fun K hK => ?_); go_simp; refine hK _ ?_; clear hK K
        refine still_nil ?_
        clear hX hne
        intro w7 hw7
        have HK7 := Hid.mk' hw7
        clear hw7
        go_wp2
        have hg7 := HK7.out.1
        refine bodyPost_ret (results_tct rfl _ _ g7 _ _ _ _ _ rfl rfl hg7 ukt rfl (by rw [i32]; simp [HDW.out]) rfl) rfl ⟨_, rfl, ?_⟩
        have h1 := congrArg List.length HJ.out.sfx
        rw [List.length_append, List.length_append, List.length_map] at h1
        have hvn := HJ.out.vn
        refine ⟨HJ.out.but.then HK7.out.2 (fun i hi e => by have := HJ.out.vlo; omega), own', Q, L, HJ.out.ext, HJ.out.fresh, HJ.out.lg.but HK7.out.2 (fun b hb e => hb (by rw [e]; exact hvn)), HJ.out.hq, by rw [HJ.out.ql]; have := HAQ.out; omega, ?_, ?_⟩
        · refine HJ.out.nodes.but HK7.out.2 (fun j hj e => hj.2.2.2 e) (fun j hj e => hj.1.2.2.2 e) (fun j hj => ⟨hj.1, hj.2.2.1⟩) (fun j hj => ⟨hj.1.1, hj.1.2.2.1⟩)
        · have h1 := HJ.out.eq
          rw [HLS.out, show bldL f B [] = [] by rfl, List.append_nil] at h1
          exact h1
    · obtain ⟨a, ls', rfl, ha, hl2⟩ := hl.head
      have HHA : Hid (a = ((B.length : Int) + 7) / 8) := by show _ = _; rw [HBL.out]; exact ha
      have HHL := Hid.mk' hl2
      have hlnb : ((ln : Int) == 0) = false := by
        have : (ln : Int) ≠ 0 := fun e => hL (List.eq_nil_of_length_eq_zero (by rw [HLN.out]; omega))
        simpa using this
      have hb1' : 1 < (bl : Int) := by omega
      clear ha hl2 hl hL
      · go_upto_region 9 with fail
        have HAB := Hid.mk' (above_any (F := Fre w wr g7 own') (v := .slice qa bl qc) (L := bdL f B) (by rw [bdL_len]; exact HJ.out.kids) bdL_wf (by rw [bdL_len, HBL.out]; omega))
        go_wp2_with fail
        refine Calls.mono HAB.out ?_
        rintro e w1 ⟨lvv, G, rfl, hnb, hg1⟩
        rw [bdL_len] at hnb
        obtain ⟨V, hV⟩ := hnb.brow (F := fun j => wr.heap.size ≤ j ∧ j < w1.heap.size) (fun j h1 h2 => ⟨h1, h2⟩)
        have HNB := Hid.mk' hnb
        have HV := Hid.mk' hV
        have HG1 := Hid.mk' hg1
        obtain ⟨m, hm⟩ : ∃ m, m = (B.length + 7) / 8 := ⟨_, rfl⟩
        have HM2 := Hid.mk' hm
        have hm1 : 1 ≤ m := by have := HJ.out.pos; omega
        have hrow := hV.row
        rw [List.length_map, List.length_range, List.map_map, ← hm] at hrow
        have HROW := Hid.mk' hrow
        obtain ⟨na, nc, hne, hcel⟩ := hrow.shape
        obtain ⟨nb, rfl, -, -, hcc⟩ := hcel (by omega)
        subst hne
        have HCC : Hid (∀ j u, ((List.range m).map V)[j]? = some u → w1.cell? ((⟨nb, 0, none⟩ : Addr).add j) = some u) := fun j u hj => by rw [addr_add, Nat.zero_add]; exact hcc j u hj
        have HON : Hid (∀ u ∈ (List.range m).map V, u.oneCell' = true) := fun u hu => by
          obtain ⟨i, hi, rfl⟩ := List.mem_map.1 hu
          have := (HV.out.el (V i, abv (bdL f B) B.length i) (List.mem_map.2 ⟨i, by rw [← HM2.out]; exact hi, rfl⟩)).1
          exact this.one
        have HNR : Hid (w1.ownsRow 0 22 1 (.slice ra ln rc) ln (L.map (·.1))) := by
          have := ownsRow_grow HJ.out.nodes.row.own hg1
          rw [HLN.out] at this
          exact this
        clear hcel hcc hrow hV hnb hg1 hm HAB
        go_upto_region 11 with (first
          | (refine wpList_someH rfl (exec_append (v := .slice ra ln rc) (n := ln) (xs := L.map (·.1)) (news := (List.range m).map V) (ad := ⟨nb, 0, none⟩) (m := m) (c := nc) Tryd.underlying26 infS rfl (by decide) rfl rfl HNR.out rfl (by simp) HCC.out HON.out (by have := HM2.out; have := HBL.out; omega) (by decide)) ?_; intro v4 w4 hap)
          | fail)
        have HAP : Hid (Appd w1 w4 22 1 (.slice ra ln rc) v4 (L.length + (B.length + 7) / 8) (L.map (·.1) ++ (List.range ((B.length + 7) / 8)).map V)) := by
          show Appd _ _ _ _ _ _ _ _
          rw [HLN.out, ← HM2.out]; exact hap
        have HU : ∃ E, BRow w1 (fun j => wr.heap.size ≤ j ∧ j < w1.heap.size) (fun j => wr.heap.size ≤ j ∧ j < w1.heap.size) (.slice (some ⟨nb, 0, none⟩) m nc) E ∧ E.map (·.2) = upL f B := ⟨_, HV.out, by rw [List.map_map]; rfl⟩
        have hth := HJ.out.there HST.out HG1.out HU HAP.out
        have hlg4 : LgO w4 own' lv (P ++ Q) := (HJ.out.lg.grow HG1.out).but HAP.out.but (fun b hb e9 => hb (HJ.out.nodes.row.inF b e9).2.2.1)
        have HDG := Hid.mk' (digests_any hlg4 hth (fun x hx => by have := (upL_ok f B x hx).1; omega) (by rw [List.length_append, upL_len, HJ.out.ql]; have := HPL.out; have := HAQ.out; have := HBL.out; omega) (f := f + (bl : Int)) (by omega) (by omega))
        obtain ⟨va, vc4, hv4⟩ := own_sl HAP.out.own
        clear hap HU hth hlg4 HNR HCC HON
        go_wp2_with fail
        refine Calls.mono HDG.out ?_
        rintro e w5 ⟨kv5, rfl, hdg⟩
        rw [← HBL.out] at hdg
        obtain ⟨own5, Q5, L5, hj5, hl5⟩ := HJ.out.step HHA.out HHL.out HG1.out V HV.out HAP.out hdg (upL_ok f B)
        rw [HBL.out] at hj5
        have HJ5 := Hid.mk' hj5
        clear hdg hj5 HDG HAP
        go_wp2
        refine ⟨⟨v4, f + (bl : Int), kv5, own5, Q5, _, _, _, L5, ?_, ?_, rfl, HJ5.out⟩, ?_⟩
        · exact hv4
        · go_num
        · have q1 := HLN.out
          have q2 := HM2.out
          simp only [slen]
          simp
          omega
end Go.Proofs.YtmlladpmecclbaaDoor
/- tree: expected. -/
namespace Go.Proofs.YtmlladpmecclbaaDoor
open Go.RowKit

/-- The blocks of a path in a plan that Of made. -/
theorem chn_get {p : Pn} : ∀ {l : List Int} {x : Int}, chn p x l → ∀ i, (i < l.length → (p.par ((x :: l).getD i 0)).e = 0 ∧ (p.par ((x :: l).getD i 0)).block = l.getD i 0) ∧ (i = l.length → (p.par ((x :: l).getD i 0)).e ≠ 0)
  | [], x, h, i => ⟨fun hi => absurd hi (Nat.not_lt_zero _), fun e => by subst e; exact h⟩
  | y :: l, x, h, i => by
    cases i with
    | zero => exact ⟨fun _ => ⟨h.1, h.2.1⟩, fun e => absurd e (by simp)⟩
    | succ i =>
      have := chn_get h.2.2 i
      refine ⟨fun hi => ?_, fun e => ?_⟩
      · have := this.1 (by simpa using hi)
        simpa using this
      · have := this.2 (by simpa using e)
        simpa using this
structure Stps (p : Pn) (bl : List Int) : Prop where
  len : 2 ≤ bl.length ∧ bl.length ≤ 4
  rng : ∀ i, i < bl.length → p.pages ≤ bl.getD i 0 ∧ bl.getD i 0 < p.head
  up : ∀ i, i + 1 < bl.length → (p.par (bl.getD i 0)).e = 0 ∧ (p.par (bl.getD i 0)).block = bl.getD (i + 1) 0 ∧ 0 ≤ (p.par (bl.getD i 0)).at' ∧ (p.par (bl.getD i 0)).at' < 8
  top : ∀ i, i + 1 = bl.length → (p.par (bl.getD i 0)).e ≠ 0
theorem Mad.stps {p : Pn} (h : Mad p) {x : Int} (hx : p.has x = true) : Stps p (p.path x) := by
  obtain ⟨h1, h2⟩ := h.path hx
  have hl := h.len
  have hpl := h2.len
  have hg := chn_get h1
  have hrng : ∀ i, i < (p.path x).length → p.pages ≤ (p.path x).getD i 0 ∧ (p.path x).getD i 0 < p.head := fun i hi => h2.ge _ (by simp [List.getD, hi])
  refine ⟨by omega, hrng, fun i hi => ?_, fun i hi => ?_⟩
  · have h3 := (hg (i + 1)).1 hi
    have e : (x :: p.path x).getD (i + 1) 0 = (p.path x).getD i 0 := by simp
    rw [e] at h3
    obtain ⟨q1, q2⟩ := hrng i (by omega)
    have hpg := h.pg
    have hd := h.hd
    have hc := h.c1
    obtain ⟨j, hj⟩ : ∃ j : Nat, (p.path x).getD i 0 = p.pages + j := ⟨((p.path x).getD i 0 - p.pages).toNat, by omega⟩
    have hup := h.parN_up (i := j) (by omega)
    rw [← hj] at hup
    rcases hup with he | ⟨_, _, _, _, k4, k5⟩
    · exact absurd h3.1 he
    · exact ⟨h3.1, h3.2, k4, k5⟩
  · have h3 := (hg (i + 1)).2 (by omega)
    have e : (x :: p.path x).getD (i + 1) 0 = (p.path x).getD i 0 := by simp
    rw [e] at h3
    exact h3
theorem iPc2 : (Tryd.prog.info? 78).map (·.size) = some 2 := by kernel_rfl
/-- What expected lays ahead. -/
structure ExM (w : World) (p : Pn) (pv : Value) (D : List Nat) (Z : List Value) (W : World) (g : Nat) : Prop where
  ew : W = ((w.alloc (.cells (pcells p pv).toArray 25)).alloc (.cells (u8s D).toArray 31)).alloc (.cells Z.toArray 31)
  eg : g = w.heap.size
  grow : Grow w W
  box : Blk W g 25 (pcells p pv)
  arg : Blk W (g + 1) 31 (u8s D)
  var : Blk W (g + 2) 31 Z
theorem ex_begin (w : World) (p : Pn) (pv : Value) (D : List Nat) (Z : List Value) : ∃ W g, ExM w p pv D Z W g := by
  refine ⟨_, _, rfl, rfl, (((But.refl _ w).alloc _).alloc _).alloc _, ?_, ?_, Blk.new (by simp)⟩
  · exact ((Blk.new rfl).but (R := fun _ => False) ((But.refl _ _).alloc _) (fun h => h)).but (R := fun _ => False) ((But.refl _ _).alloc _) (fun h => h)
  · exact Blk.but (R := fun _ => False) (Blk.new (by simp)) ((But.refl _ _).alloc _) (fun h => h)
set_option maxRecDepth 100000 in
set_option maxHeartbeats 4000000 in
theorem exp_top {w : World} {p : Pn} {pv : Value} {x : Int} {ao : Option Addr} {c : Nat} {D : List Nat} (hD : D.length = 32) :
    Calls Tryd.prog 28 #[pval p pv, .int .i64 x, .slice ao 0 c, dkey D] w fun e w' => e = .returned (.tuple #[dkey D, .bool true]) ∧ Grow w w' := by
  obtain ⟨Z, hZ⟩ : ∃ Z, Z = u8s z32 := ⟨_, rfl⟩
  have hz := z32v
  rw [← hZ] at hz
  have HZL : Hid (Z.length = 32) := by show _ = _; rw [hZ]; rfl
  obtain ⟨W, g, hM⟩ := ex_begin w p pv D Z
  have HM := Hid.mk' hM
  have HDL := Hid.mk' hD
  unfold pval
  obtain ⟨N, hN⟩ : ∃ N, N = (pcells p pv).toArray := ⟨_, rfl⟩
  obtain ⟨M, hMD⟩ : ∃ M, M = (u8s D).toArray := ⟨_, rfl⟩
  have hew := hM.ew
  have hdk : dkey D = .agg M := by rw [hMD]; rfl
  rw [hdk]
  rw [← hN, ← hMD] at hew
  rw [← hN]
  have HEW := Hid.mk' hew
  have HMD := Hid.mk' hMD
  clear hM hD hZ hN hMD hew hdk
  go_enter Tryd.func28, Tryd.ntmps28
  go_upto_region 1 with fail
  rw [← HEW.out, ← HM.out.eg]
  have hvar := HM.out.var
  have harg := HM.out.arg
  go_wp2_with (first
    | (refine wpList_load_u8s ukt i32 rfl _ rfl (g + 1) D HDL.out rfl harg ?_)
    | (refine wpList_store_u8s i32 rfl _ _ rfl (g + 2) D HDL.out rfl rfl Z HZL.out hvar ?_; intro W9 hb9 hbut9)
    | fail)
  refine bodyPost_ret (results_plan_tmp rfl _ _ (g + 2) _ _ _ _ rfl hb9 ukt rfl (by rw [i32]; simp [HDL.out]) rfl) rfl ⟨by rw [HMD.out]; rfl, ?_⟩
  exact HM.out.grow.then hbut9 (fun i hi e => by have := HM.out.eg; omega)
set_option maxRecDepth 100000 in
set_option maxHeartbeats 8000000 in
theorem exp_up {w : World} {p : Pn} {pv u : Value} {x : Int} {b off k c a : Nat} {D y : List Nat} (hv : Nums w pv p.levels) (hlen : p.levels.length ≤ 100000) (he : (p.par x).e = 0) (ha : (p.par x).at' = a) (ha8 : a < 8) (hc : w.cell? ⟨b, off, none⟩ = some u) (hu : Bs w u y) (hy : y.length = 256) :
    Calls Tryd.prog 28 #[pval p pv, .int .i64 x, .slice (some ⟨b, off, none⟩) (k + 1) c, dkey D] w fun e w' => e = .returned (.tuple #[dkey (kidL y a), .bool true]) ∧ Grow w w' := by
  obtain ⟨Z, hZ⟩ : ∃ Z, Z = u8s z32 := ⟨_, rfl⟩
  have hz := z32v
  rw [← hZ] at hz
  have HZL : Hid (Z.length = 32) := by show _ = _; rw [hZ]; rfl
  obtain ⟨W, g, hM⟩ := ex_begin w p pv D Z
  have HM := Hid.mk' hM
  have HPA := Hid.mk' (parent_any W p pv x (hv.grow hM.grow) hlen)
  obtain ⟨bk, hbk⟩ : ∃ bk, bk = (p.par x).block := ⟨_, rfl⟩
  have hret : (p.par x).ret = .tuple #[.agg (plc bk a).toArray, .int .i64 0] := by unfold Pc.ret; rw [he, ha, hbk]
  rw [hret] at HPA
  have HU := Hid.mk' hu
  have HY := Hid.mk' hy
  have HA8 := Hid.mk' ha8
  have hcl := cell_lt hc
  have HC : Hid (∀ w', Grow W w' → w'.cell? ⟨b, off, none⟩ = some u ∧ Bs w' u y) := fun w' k => ⟨grow_cell k (grow_cell hM.grow hc), (hu.but hM.grow (fun _ _ _ h => h)).but k (fun _ _ _ h => h)⟩
  obtain ⟨K1, hK1⟩ : ∃ K1, K1 = kidL y a := ⟨_, rfl⟩
  have HKL : Hid (K1.length = 32) := by show _ = _; rw [hK1]; exact kidL_len (by omega)
  have HKD : Hid (∀ w', Grow W w' → Calls Tryd.prog 43 #[u, .int .i64 (a : Int)] w' fun e w'' => e = .returned (.tuple #[.agg (u8s K1).toArray, .int .i64 0]) ∧ Grow w' w'') := fun w' k => by
    have := tkid_any (HC.out w' k).2 hy ha8
    rw [← hK1] at this
    exact this
  rw [← hK1]
  have HCB : Hid (∀ j v, (pcells p pv)[j]? = some v → W.cell? ((⟨g, 0, none⟩ : Addr).add j) = some v) := hM.box.cells0
  unfold pval
  obtain ⟨N, hN⟩ : ∃ N, N = (pcells p pv).toArray := ⟨_, rfl⟩
  obtain ⟨M, hMD⟩ : ∃ M, M = (u8s D).toArray := ⟨_, rfl⟩
  obtain ⟨KK, hKK⟩ : ∃ KK, KK = (u8s K1).toArray := ⟨_, rfl⟩
  have hew := hM.ew
  have hdk : dkey D = .agg M := by rw [hMD]; rfl
  have hdk2 : dkey K1 = .agg KK := by rw [hKK]; rfl
  rw [hdk, hdk2]
  rw [← hN, ← hMD] at hew
  rw [← hN]
  rw [← hKK] at HKD
  have HN := Hid.mk' hN
  have HKK := Hid.mk' hKK
  have HEW := Hid.mk' hew
  obtain ⟨ua, un, uc, hue⟩ := hu.sl
  clear hM hZ hN hMD hew hdk hdk2 hK1 hKK hret hbk he ha ha8 hc hcl hv hlen hy hu HU HY
  subst hue
  go_enter Tryd.func28, Tryd.ntmps28
  go_upto_region 1 with fail
  rw [← HEW.out, ← HM.out.eg]
  go_wp2_with (first
    | (refine wpList_load_cells rfl _ _ rfl ⟨g, 0, none⟩ rfl (pcells p pv) _ HCB.out Tryd.underlying25 rfl iPl ?_; rw [← HN.out])
    | fail)
  rw [HN.out]
  refine Calls.mono HPA.out ?_
  rintro e w1 ⟨rfl, hg1⟩
  have HG1 := Hid.mk' hg1
  obtain ⟨g10, hg10⟩ : ∃ g, g = w1.heap.size := ⟨_, rfl⟩
  have HBP : Hid (Blk (w1.alloc (.cells (plc 0 0).toArray 78)) w1.heap.size 78 ([] ++ plc 0 0 ++ [])) := Blk.new rfl
  clear hg1
  go_upto_region 6 with (first
    | (refine wpList_runH rfl (exec_allocF rfl (zPc _)) ?_)
    | (refine wpList_store_at rfl _ _ _ rfl w1.heap.size 0 (plc bk a) rfl (by exact rfl) 78 [] (plc 0 0) [] HBP.out rfl rfl iPc2 (plc_one _ _) ?_; intro w2 hb2 hbut2)
    | fail)
  have HT2 : Hid (Grow w1 w2) := ((But.refl _ w1).alloc _).then hbut2 (fun i hi e => by omega)
  have hb2' : Blk w2 g10 78 (plc bk a) := by rw [hg10]; simpa using hb2
  rw [← hg10]
  have HB2 := Hid.mk' hb2'
  have HG2 := Hid.mk' (HG1.out.trans HT2.out)
  have HV2 := Hid.mk' ((HM.out.var.but HG1.out (fun h => h)).but HT2.out (fun h => h))
  clear hb2 hbut2 hb2' hg10 HBP HT2 HPA HG1
  obtain ⟨PN, hPN⟩ : ∃ PN, PN = (pcells p pv).toArray := ⟨_, rfl⟩
  rw [← hPN]
  clear hPN
  refine region_chain [([0, 1, 2, 3, 4, 5, 6, 7, 8], 9), ([], 10)] [11] (Grow w2) (Grow w2) (by kernel_rfl) (by kernel_rfl) (fun _ _ h k => h.trans k) (fun _ h => h) ((But.refl _ w2).drew) ?_
  intro ι hne X hX
  have c1 : ∀ x, (X x).cell? ⟨b, off, none⟩ = some (.slice ua un uc) := fun x => (HC.out (X x) (HG2.out.trans (hX x))).1
  have c2 : ∀ x, (X x).cell? ⟨g10, 1, none⟩ = some (.int .i64 (a : Int)) := fun x => (HB2.out.but (hX x) (fun h => h)).cell 1
  iterate 5 (refine still_step rfl (fun K hK => ?_); go_simp; refine hK _ ?_; clear hK K)
  refine still_call rfl (.tuple #[.agg KK, .int .i64 0]) 43 #[.slice ua un uc, .int .i64 (a : Int)] rfl (fun _ => by kernel_rfl) (fun x => HKD.out (X x) (HG2.out.trans (hX x))) ?_
  intro K hK; go_simp; refine hK _ ?_; clear hK K
  iterate 3 (refine still_step rfl (fun K hK => ?_); go_simp; refine hK _ ?_; clear hK K)
  refine still_nil ?_
  clear hX hne c1 c2
  refine turn_run rfl rfl (fun u w' => ∃ g, u = .pointer (some ⟨g, 0, none⟩) ∧ w2.heap.size ≤ g ∧ Blk w' g 31 Z ∧ Grow w2 w') (fun _ w' => Grow w2 w') (fun _ w1 w2 h k => by
    obtain ⟨g, h1, h2, h3, h4⟩ := h
    exact ⟨g, h1, h2, h3.but k (fun h => h), h4.trans k⟩) (fun _ _ h => by obtain ⟨_, _, _, _, h4⟩ := h; exact h4) (.inr (fun _ _ h => h)) ?_ ?_
  · intro w6 hw6
    exact ⟨_, _, .inl (exec_allocF rfl (hz w6)), w6.heap.size, rfl, hw6.size, Blk.new rfl, hw6.alloc _⟩
  · rintro u ⟨wq, g12, rfl, hge, -, -⟩ Y hY
    go_simp
    refine hY _ ?_
    clear hY Y
    intro ι hne X hX
    refine still_nil ?_
    clear hX hne
    refine turn_run rfl rfl (fun _ w' => Blk w' g12 31 (u8s K1) ∧ Grow w2 w') (fun _ w' => Grow w2 w') (fun _ w1 w2 h k => ⟨h.1.but k (fun h => h), h.2.trans k⟩) (fun _ _ h => h.2) (.inr (fun _ _ h => h)) ?_ ?_
    · rintro w6 ⟨g, e, h2, h3, h4⟩
      have e2 : g12 = g := by simpa using e
      subst e2
      exact turn_storeA (D := K1) (L := Z) (v := .agg KK) i32 rfl rfl rfl (by rw [HKK.out]) HKL.out HZL.out h3 (fun w7 hb7 hk7 => ⟨hb7, h4.then hk7 (fun i hi e => by omega)⟩)
    · rintro z - Y hY
      go_simp
      refine hY _ ?_
      clear hY Y
      intro ι hne X hX
      refine still_step rfl (fun K hK => ?_); go_simp; refine hK _ ?_; clear hK K
      refine still_nil ?_
      clear hX hne
      intro w7 hw7
      have HK7 := Hid.mk' hw7
      have HV7 := Hid.mk' (HV2.out.but hw7.2 (fun h => h))
      clear hw7
      have h712 := HK7.out.1
      have hv7 := HV7.out
      go_wp2_with (first
        | (refine wpList_load_u8s ukt i32 rfl _ rfl g12 K1 HKL.out rfl h712 ?_)
        | (refine wpList_store_u8s i32 rfl _ _ rfl (g + 2) K1 HKL.out rfl rfl Z HZL.out hv7 ?_; intro W9 hb9 hbut9)
        | fail)
      refine bodyPost_ret (results_plan_tmp rfl _ _ (g + 2) _ _ _ _ rfl hb9 ukt rfl (by rw [i32]; simp [HKL.out]) rfl) rfl ⟨by rw [HKK.out]; rfl, ?_⟩
      exact (HM.out.grow.trans (HG2.out.trans HK7.out.2)).then hbut9 (fun i hi e => by have := HM.out.eg; omega)
end Go.Proofs.YtmlladpmecclbaaDoor
/- Two places held against each other; of an array of two the one or the other. -/
namespace Go.Proofs.YtmlladpmecclbaaDoor
open Go.RowKit

theorem eqf_consP {d : Nat} {xs ys : Array Value} {f : Field} {fs : List Field} {u v : Value} {b r : Bool} {w : World} (hn : f.name ≠ "_") (hx : (part f.type xs f.offset).run Tryd.prog w = .ok u w) (hy : (part f.type ys f.offset).run Tryd.prog w = .ok v w)
    (he : (Op.equalIn d f.type u v).run Tryd.prog w = .ok b w) (hr : (Op.eqFields d xs ys fs).run Tryd.prog w = .ok r w) : (Op.eqFields d xs ys (f :: fs)).run Tryd.prog w = .ok (b && r) w := by
  unfold Op.eqFields
  rw [if_pos hn]
  simp only [Sem.run_bind, hx, hy, he, Result.andThen_ok, Sem.run_ite, Sem.run_pure]
  cases b
  · rfl
  · simpa using hr
theorem part_oneP {t : TypeId} {cs : Array Value} {o : Nat} {v : Value} {w : World} (h : (isAgg t).run Tryd.prog w = .ok false w) (hc : cs[o]? = some v) : (part t cs o).run Tryd.prog w = .ok v w := by
  unfold part
  rw [Sem.run_bind, h, Result.andThen_ok, hc]
  rfl
theorem exec_binP {w : World} {o : Oper} {ρ : Operand → Value} {op : BinOp} {t t' : TypeId} {x y : Operand} {u v r : Value} (ho : o.op = .binOp op t x y t') (hx : ρ x = u) (hy : ρ y = v) (hg : (eqGuard op t x y u v).run Tryd.prog w = .ok () w) (hr : (binOp op t u v).run Tryd.prog w = .ok r w) : (execOp ρ o).run Tryd.prog w = .ok (.value r) w := by
  unfold execOp
  simp only [ho, hx, hy, Sem.run_bind, hg, hr, Result.andThen_ok, Sem.run_pure]
theorem exec_neP {w : World} {o : Oper} {ρ : Operand → Value} {t t' : TypeId} {x y : Operand} {N M : Array Value} {b : Bool} (ho : o.op = .binOp .neq t x y t') (hx : ρ x = .agg N) (hy : ρ y = .agg M) (hT : Tryd.prog.eqGuardType Tryd.prog.depth t = false) (h : (Op.equalIn 10000 t (.agg N) (.agg M)).run Tryd.prog w = .ok b w) : (execOp ρ o).run Tryd.prog w = .ok (.value (.bool (!b))) w :=
  exec_binP ho hx hy (run_eqGuard_agg (P := Tryd.prog) (w := w) .neq t x y N M hT) (by rw [run_neq_struct, h]; rfl)
theorem equalPc (a b : Int) (w : World) : (Op.equalIn 10000 78 (.agg (plc a b).toArray) (.agg (plc a b).toArray)).run Tryd.prog w = .ok true w := by
  rw [run_equalIn_struct w 9999 78 _ _ (by kernel_rfl) (by kernel_rfl)]
  have i3 : (isAgg 3).run Tryd.prog w = .ok false w := by kernel_rfl
  have hf : (Tryd.prog.fieldsOf 78).toList = [⟨ "Block", 3, 0, false, "", "", 0⟩, ⟨ "At", 3, 1, false, "", "", 8⟩] := by kernel_rfl
  rw [hf]
  have hi : ∀ x : Int, (Op.equalIn 9999 3 (.int .i64 x) (.int .i64 x)).run Tryd.prog w = .ok true w := fun x => by
    unfold Op.equalIn
    simp
  exact eqf_consP (b := true) (r := true) (by decide) (part_oneP i3 rfl) (part_oneP i3 rfl) (hi a) (eqf_consP (b := true) (r := true) (by decide) (part_oneP i3 rfl) (part_oneP i3 rfl) (hi b) rfl)
theorem exec_idx {w : World} {o : Oper} {ρ : Operand → Value} {t : TypeId} {x y : Operand} {u v r : Value} (ho : o.op = .index t x y) (hx : ρ x = u) (hy : ρ y = v) (h : (Instr.index t u v).run Tryd.prog w = .ok r w) : (execOp ρ o).run Tryd.prog w = .ok (.value r) w := by
  unfold execOp
  simp only [ho, hx, hy, Sem.run_bind, h, Result.andThen_ok, Sem.run_pure]
end Go.Proofs.YtmlladpmecclbaaDoor
/- tree: Check. -/
namespace Go.Proofs.YtmlladpmecclbaaDoor
open Go.RowKit

/-- A path is what its root says. -/
def Good (p : Pn) (bl : List Int) (path : List Bk) (root : List Nat) : Prop :=
  ∀ i, i < path.length → bd (bl.getD i 0) (path.getD i []) = if i + 1 = path.length then root else kidL (path.getD (i + 1) []) (p.par (bl.getD i 0)).at'.toNat
def noteB (bl : List Int) (path : List Bk) : Nat → List Pr
  | 0 => []
  | k + 1 => noteB bl path k ++ [(inp (bl.getD k 0) (path.getD k []), bd (bl.getD k 0) (path.getD k []))]
theorem noteB_len (bl : List Int) (path : List Bk) : ∀ k, (noteB bl path k).length = k
  | 0 => rfl
  | k + 1 => by unfold noteB; rw [List.length_append, noteB_len bl path k]; rfl
theorem LgOTo.comp {w wr w' : World} {own own1 : Owner} {lv : Value} {P2 : List Pr} (k : But (fun b => own b ≠ .none) w wr) (q1 : Ext own own1) (q2 : Fresh w own own1) (h : LgOTo wr own1 lv P2 w') : LgOTo w own lv P2 w' := by
  obtain ⟨own2, r1, r2, r3⟩ := h.ex
  refine ⟨k.then h.but (fun i hi e => ?_), own2, q1.trans r1, fun b hb => ?_, r3⟩
  · by_cases hq : own1 i = own i
    · rw [← hq]; exact e
    · exact absurd (q2 i hq) (by omega)
  · by_cases hq : own1 b = own b
    · exact Nat.le_trans k.size (r2 b (by rw [hq]; exact hb))
    · exact q2 b hq
theorem tdig_nil {w : World} {v : Value} {b : List Nat} {x : Int} (hb : Bs w v b) (hk : Kw w) (hh : Hw w) (hl : b.length ≤ 900000) :
    Calls Tryd.prog 29 #[.pointer none, .int .i64 x, v] w fun e w' => e = .returned (dkey (bd x b)) ∧ Grow w w' := by
  refine (tdig_any (x := x) (LgO.none w []) hb hk hh hl (by decide)).mono ?_
  rintro e w' ⟨rfl, h⟩
  exact ⟨rfl, h.but.mono (fun _ _ e => e rfl)⟩
theorem slice_fromT {b off n cap k : Nat} (hk : k ≤ n) (hc : n ≤ cap) :
    ∃ A c, (∀ w0 : World, (Instr.sliceAt 26 (.slice (some ⟨b, off, none⟩) n cap) (some (.int .i64 (k : Int))) none none).run Tryd.prog w0 = .ok (.slice (some A) (n - k) c) w0) ∧ (k < n → A = ⟨b, off + k, none⟩) := by
  have hu : Tryd.prog.underlying 26 = some (.slice (Tryd.prog.elem 26)) := by kernel_rfl
  have he : Tryd.prog.elem 26 = 22 := by kernel_rfl
  have hs : ∀ w0 : World, (sizeOf 22).run Tryd.prog w0 = .ok 1 w0 := fun w0 => by kernel_rfl
  refine ⟨if cap = k then ⟨b, off, none⟩ else ⟨b, off + k, none⟩, cap - k, fun w0 => ?_, fun h => by rw [if_neg (by omega)]⟩
  rw [run_sliceAt_slice _ _ _ _ _ _ hu, run_slice_l w0 _ _ _ _ hu .i64 (k : Int) (by omega) (by omega), he, hs]
  by_cases hcn : cap = k <;> simp [Result.andThen, sliced, hcn, Addr.add]
/-- What Check lays ahead. -/
structure CkM (w : World) (p : Pn) (pv : Value) (D : List Nat) (W : World) (g : Nat) : Prop where
  ew : W = (w.alloc (.cells (pcells p pv).toArray 25)).alloc (.cells (u8s D).toArray 31)
  eg : g = w.heap.size
  grow : Grow w W
  box : Blk W g 25 (pcells p pv)
  arg : Blk W (g + 1) 31 (u8s D)
theorem ck_begin (w : World) (p : Pn) (pv : Value) (D : List Nat) : ∃ W g, CkM w p pv D W g := by
  refine ⟨_, _, rfl, rfl, ((But.refl _ w).alloc _).alloc _, ?_, Blk.new (by simp)⟩
  exact (Blk.new rfl).but (R := fun _ => False) ((But.refl _ _).alloc _) (fun h => h)
set_option maxRecDepth 100000 in
set_option maxHeartbeats 4000000 in
theorem chk_no {w : World} {lv v pv : Value} {p : Pn} {x : Int} {D : List Nat} (h : p.has x = false) :
    Calls Tryd.prog 11 #[lv, pval p pv, .int .i64 x, v, dkey D] w fun e w' => e = .returned (.int .i64 1) ∧ Grow w w' := by
  obtain ⟨W, g, hM⟩ := ck_begin w p pv D
  have HM := Hid.mk' hM
  have HPN := Hid.mk' (path_not W p pv x h)
  have HCB : Hid (∀ j v, (pcells p pv)[j]? = some v → W.cell? ((⟨g, 0, none⟩ : Addr).add j) = some v) := hM.box.cells0
  unfold pval
  obtain ⟨N, hN⟩ : ∃ N, N = (pcells p pv).toArray := ⟨_, rfl⟩
  obtain ⟨M, hMD⟩ : ∃ M, M = (u8s D).toArray := ⟨_, rfl⟩
  have hdk : dkey D = .agg M := by rw [hMD]; rfl
  rw [hdk]
  have hew := hM.ew
  rw [← hN, ← hMD] at hew
  rw [← hN]
  have HN := Hid.mk' hN
  have HEW := Hid.mk' hew
  clear hM hN hMD hew hdk h
  go_enter Tryd.func11, Tryd.ntmps11
  go_upto_region 1 with fail
  rw [← HEW.out, ← HM.out.eg]
  go_wp2_with (first
    | (refine wpList_load_cells rfl _ _ rfl ⟨g, 0, none⟩ rfl (pcells p pv) _ HCB.out Tryd.underlying25 rfl iPl ?_)
    | fail)
  refine Calls.mono HPN.out ?_
  rintro e w1 ⟨rfl, hg1⟩
  have HG1 := Hid.mk' (HM.out.grow.trans hg1)
  clear hg1
  unfold noS
  go_wp2
  go_ret
  exact ⟨rfl, HG1.out⟩
end Go.Proofs.YtmlladpmecclbaaDoor
/- tree: Check, the walk. -/
namespace Go.Proofs.YtmlladpmecclbaaDoor
open Go.RowKit

theorem path_nums {p : Pn} (h : Mad p) {x : Int} (hx : p.has x = true) : ∀ y ∈ p.path x, -9223372036854775808 ≤ y ∧ y ≤ 9223372036854775807 := fun y hy => by
  have h1 := (h.path hx).2.ge y hy
  have h2 := h.hd
  have h3 := h.pg
  have h4 := h.c1
  have h5 := h.nd
  have h6 := h.sum
  omega
set_option maxRecDepth 100000 in
set_option maxHeartbeats 4000000 in
theorem chk_form {w : World} {lv v pv : Value} {p : Pn} {x : Int} {D : List Nat} {path : List Bk} (hm : Mad p) (hv : Nums w pv p.levels) (h : p.has x = true) (hp : Ps w v path) (hn : path.length ≠ (p.path x).length ∨ whl path = false) (hl : path.length ≤ 1000000) :
    Calls Tryd.prog 11 #[lv, pval p pv, .int .i64 x, v, dkey D] w fun e w' => e = .returned (.int .i64 3) ∧ Grow w w' := by
  obtain ⟨W, g, hM⟩ := ck_begin w p pv D
  have HM := Hid.mk' hM
  have hlv := hm.len
  have HPN := Hid.mk' (path_any W p pv x h (hv.grow hM.grow) (by omega))
  have HCB : Hid (∀ j v, (pcells p pv)[j]? = some v → W.cell? ((⟨g, 0, none⟩ : Addr).add j) = some v) := hM.box.cells0
  have HWH := Hid.mk' (fun w' (k : Grow W w') => whole_any ((hp.below hM.grow).below k) hl)
  have hst := (hm.stps h).len
  unfold pval
  obtain ⟨N, hN⟩ : ∃ N, N = (pcells p pv).toArray := ⟨_, rfl⟩
  obtain ⟨M, hMD⟩ : ∃ M, M = (u8s D).toArray := ⟨_, rfl⟩
  have hdk : dkey D = .agg M := by rw [hMD]; rfl
  rw [hdk]
  have hew := hM.ew
  rw [← hN, ← hMD] at hew
  rw [← hN]
  have HN := Hid.mk' hN
  have HEW := Hid.mk' hew
  obtain ⟨a0, vc, hve⟩ : ∃ a0 c, v = .slice a0 path.length c := by obtain ⟨a, c, e, _⟩ := hp.gen; exact ⟨a, c, e⟩
  generalize path.length = m at *
  subst hve
  unfold PathTo at HPN
  generalize hbl : p.path x = bl at *
  have HNN := Hid.mk' hn
  clear hM hN hMD hew hdk h hv hm hlv hp hbl hn
  go_enter Tryd.func11, Tryd.ntmps11
  go_upto_region 1 with fail
  rw [← HEW.out, ← HM.out.eg]
  go_wp2_with (first
    | (refine wpList_load_cells rfl _ _ rfl ⟨g, 0, none⟩ rfl (pcells p pv) _ HCB.out Tryd.underlying25 rfl iPl ?_)
    | fail)
  refine Calls.mono HPN.out ?_
  rintro e w1 ⟨vb, rfl, ho, hg1⟩
  have HG1 := Hid.mk' (HM.out.grow.trans hg1)
  have HW1 := Hid.mk' (HWH.out w1 hg1)
  obtain ⟨ba, bc, rfl⟩ := ho.sl
  generalize bl.length = n at *
  clear hg1 ho HWH HPN
  by_cases hmn : m = n
  · subst hmn
    have hw : whl path = false := by
      rcases HNN.out with h | h
      · exact absurd rfl h
      · exact h
    rw [hw] at HW1
    have hmm : ((m : Int) != m) = false := by simp
    clear hw
    go_wp2_with fail
    refine Calls.mono HW1.out ?_
    rintro e w2 ⟨rfl, hw⟩
    have h2 := hw.symm
    subst h2
    clear hw
    go_wp2
    go_ret
    exact ⟨rfl, HG1.out⟩
  · have hmm : ((m : Int) != (n : Int)) = true := by
      have : (m : Int) ≠ (n : Int) := by omega
      simpa using this
    go_wp2
    go_ret
    exact ⟨rfl, HG1.out⟩
end Go.Proofs.YtmlladpmecclbaaDoor
/- tree: Check of a path that fits, the walk. -/
namespace Go.Proofs.YtmlladpmecclbaaDoor
open Go.RowKit

theorem exec_bin3 {w : World} {o : Oper} {ρ : Operand → Value} {t t' : TypeId} {x y : Operand} {N M : Array Value} {b c : Bool} (ho : o.op = .binOp .neq t x y t') (hx : ρ x = .agg N) (hy : ρ y = .agg M) (hT : Tryd.prog.eqGuardType Tryd.prog.depth t = false) (h : (Op.equalIn 10000 t (.agg N) (.agg M)).run Tryd.prog w = .ok b w) (hc : (!b) = c) : (execOp ρ o).run Tryd.prog w = .ok (.value (.bool c)) w := by
  subst hc; exact exec_neP ho hx hy hT h
/-- What the block i of a path must have. -/
def wantB (p : Pn) (bl : List Int) (path : List Bk) (root : List Nat) (i : Nat) : List Nat :=
  if i + 1 = path.length then root else kidL (path.getD (i + 1) []) (p.par (bl.getD i 0)).at'.toNat
theorem wantB_wf {p : Pn} {bl : List Int} {path : List Bk} {root : List Nat} {i : Nat} (hs : Stps p bl) (hl : path.length = bl.length) (hw : whl path = true) (hz : ∀ x ∈ path, ∀ z ∈ x, z < 256) (hr : wf32 root) (hi : i < path.length) : wf32 (wantB p bl path root i) := by
  unfold wantB
  by_cases he : i + 1 = path.length
  · rw [if_pos he]; exact hr
  · rw [if_neg he]
    have hu := hs.up i (by omega)
    have hm : path.getD (i + 1) [] ∈ path := by simp [List.getD, show i + 1 < path.length by omega]
    have h256 := whl_true hw _ hm
    exact ⟨kidL_len (by omega), kidL_lt (hz _ hm)⟩
set_option maxRecDepth 100000 in
set_option maxHeartbeats 16000000 in
theorem chk_any {w : World} {own : Owner} {lv v pv : Value} {P : List Pr} {p : Pn} {x : Int} {root : List Nat} {path : List Bk} (hlg : LgO w own lv P) (hm : Mad p) (hv : Nums w pv p.levels) (h : p.has x = true)
    (hst : ∀ w', But (fun b => own b ≠ .none) w w' → Kw w' ∧ Hw w' ∧ Ps w' v path) (hcap : ∀ ao n c, v = .slice ao n c → n ≤ c) (hn : path.length = (p.path x).length) (hw : whl path = true) (hz : ∀ x ∈ path, ∀ z ∈ x, z < 256) (hr : wf32 root) (hP : P.length ≤ 90000) :
    Calls Tryd.prog 11 #[lv, pval p pv, .int .i64 x, v, dkey root] w fun e w' =>
      (Good p (p.path x) path root ∧ e = .returned (.int .i64 0) ∧ LgOTo w own lv (P ++ noteB (p.path x) path path.length) w') ∨ (¬ Good p (p.path x) path root ∧ e = .returned (.int .i64 10) ∧ Grow w w') := by
  obtain ⟨W, g, hM⟩ := ck_begin w p pv root
  have HM := Hid.mk' hM
  have hlv := hm.len
  have HPN := Hid.mk' (path_any W p pv x h (hv.grow hM.grow) (by omega))
  have HCB : Hid (∀ w', Grow W w' → ∀ j v, (pcells p pv)[j]? = some v → w'.cell? ((⟨g, 0, none⟩ : Addr).add j) = some v) := fun w' k => (hM.box.but k (fun h => h)).cells0
  have hG : ∀ w', Grow w w' → But (fun b => own b ≠ .none) w w' := fun w' k => k.mono (fun _ _ h => h.elim)
  have hs := hm.stps h
  have HS := Hid.mk' hs
  have hsl := hs.len
  have HWH := Hid.mk' (fun w' (k : Grow w w') => whole_any (hst w' (hG w' k)).2.2 (by omega))
  rw [hw] at HWH
  have hi64 := path_nums hm h
  have HI := Hid.mk' hi64
  have HWT := Hid.mk' (fun i (hi : i < path.length) => wantB_wf hs hn hw hz hr hi)
  have HST := Hid.mk' hst
  have HLG := Hid.mk' hlg
  have HV := Hid.mk' hv
  have HLV : Hid (p.levels.length ≤ 100000) := by show _ ≤ _; omega
  have HPL := Hid.mk' hP
  have HRT := Hid.mk' hr
  have H256 := Hid.mk' (whl_true hw)
  unfold pval
  obtain ⟨N, hN⟩ : ∃ N, N = (pcells p pv).toArray := ⟨_, rfl⟩
  obtain ⟨M, hMD⟩ : ∃ M, M = (u8s root).toArray := ⟨_, rfl⟩
  have hdk : dkey root = .agg M := by rw [hMD]; rfl
  rw [hdk]
  have hew := hM.ew
  rw [← hN, ← hMD] at hew
  rw [← hN]
  have HN := Hid.mk' hN
  have HMD := Hid.mk' hMD
  have HEW := Hid.mk' hew
  have HHN : Hid (path.length = (p.path x).length) := hn
  obtain ⟨a0, vc, hve, hpg⟩ : ∃ a0 c, v = .slice a0 path.length c ∧ (0 < path.length → ∃ b off, a0 = some ⟨b, off, none⟩ ∧ b < w.heap.size) := by
    obtain ⟨a, c, e, h⟩ := (hst w (But.refl _ _)).2.2.gen
    exact ⟨a, c, e, fun h0 => by obtain ⟨b, off, e, hb, _⟩ := h h0; exact ⟨b, off, e, hb⟩⟩
  obtain ⟨pb, po, rfl, hpb⟩ := hpg (by omega)
  have hvc := hcap _ _ _ hve
  unfold PathTo at HPN
  generalize hbl : p.path x = bl at *
  obtain ⟨m, hmm⟩ : ∃ m, m = path.length := ⟨_, rfl⟩
  have HMM := Hid.mk' hmm
  rw [← hmm] at hve hvc hn
  have hm1 : 1 ≤ m := by omega
  have hm4 : m ≤ 4 := by omega
  subst hve
  have HAT : Hid (∀ w', But (fun b => own b ≠ .none) w w' → ∀ i, i < m → ∃ u, w'.cell? ⟨pb, po + i, none⟩ = some u ∧ Bs w' u (path.getD i [])) := fun w' k i hi => by
    obtain ⟨a, c, e, hh⟩ := (HST.out w' k).2.2.gen
    obtain ⟨b, off, e2, _, hc⟩ := hh (by omega)
    simp only [Value.slice.injEq] at e
    rw [e2] at e
    simp only [Option.some.injEq, Addr.mk.injEq, and_true] at e
    obtain ⟨⟨rfl, rfl⟩, _, _⟩ := e
    exact hc i (by omega)
  have hmne : ((m : Int) != (m : Int)) = false := by simp
  clear hM hN hMD hew hdk h hv hm hlv hst hlg hw hz hr hP hcap hpg hs hi64 hsl hG hpb
  go_enter Tryd.func11, Tryd.ntmps11
  go_upto_region 1 with fail
  rw [← HEW.out, ← HM.out.eg]
  go_wp2_with (first
    | (refine wpList_load_cells rfl _ _ rfl ⟨g, 0, none⟩ rfl (pcells p pv) _ (HCB.out W (But.refl _ _)) Tryd.underlying25 rfl iPl ?_)
    | fail)
  refine Calls.mono HPN.out ?_
  rintro e w1 ⟨vb, rfl, ho, hg1⟩
  have HG1 := Hid.mk' (HM.out.grow.trans hg1)
  have HGW := Hid.mk' hg1
  have HW1 := Hid.mk' (HWH.out w1 HG1.out)
  have hblm : bl.length = m := by omega
  have hrow := ho.row
  obtain ⟨nb, nc, rfl, hcb⟩ := row_cellP (e := 3) (v := vb) (L := numv bl) (by rw [show (numv bl).length = bl.length by simp]; exact hrow) (by rw [show (numv bl).length = bl.length by simp]; omega)
  rw [show (numv bl).length = bl.length by simp, hblm] at ho ⊢
  have HNB : Hid (W.heap.size ≤ nb ∧ nb < w1.heap.size) := ⟨ho.new nb rfl, (ho.row.lt nb rfl).2⟩
  have HCN : Hid (∀ i, i < m → w1.cell? ⟨nb, i, none⟩ = some (.int .i64 (bl.getD i 0))) := fun i hi => hcb i _ (by simp [List.getD, show i < bl.length by omega])
  have HBLM := Hid.mk' hblm
  have HBL := Hid.mk' hbl
  clear hg1 ho HWH HPN hrow hcb hblm hn hmm hbl
  go_wp2_with fail
  refine Calls.mono HW1.out ?_
  rintro e w2 ⟨rfl, hw⟩
  have h2 := hw.symm
  subst h2
  clear hw
  go_upto_region 7 with fail
  go_loopw [40] (fun iv wr => ∃ k : Nat, k ≤ m ∧ iv = .int .i64 k ∧ Grow w1 wr ∧ ∀ i, i < k → bd (bl.getD i 0) (path.getD i []) = wantB p bl path root i) (fun iv _ => m - (intOf iv).toNat)
  case atStart => exact ⟨0, Nat.zero_le _, rfl, But.refl _ _, fun i hi => absurd hi (Nat.not_lt_zero _)⟩
  case round =>
    obtain ⟨k, hk, rfl, hgr, hgood⟩ := hrel
    have HGR := Hid.mk' hgr
    have HGO := Hid.mk' hgood
    by_cases hlt : k < m
    · have hGw : ∀ w', Grow wr w' → But (fun b => own b ≠ .none) w w' := fun w' k => ((HG1.out.trans HGR.out).trans k).mono (fun _ _ h => h.elim)
      have HKH : Hid (∀ w', Grow wr w' → Kw w' ∧ Hw w') := fun w' k => ⟨(HST.out w' (hGw w' k)).1, (HST.out w' (hGw w' k)).2.1⟩
      obtain ⟨bk, hbk⟩ : ∃ bk, bk = bl.getD k 0 := ⟨_, rfl⟩
      obtain ⟨y, hy⟩ : ∃ y, y = path.getD k [] := ⟨_, rfl⟩
      obtain ⟨D, hD⟩ : ∃ D, D = wantB p bl path root k := ⟨_, rfl⟩
      have HD := Hid.mk' hD
      have HBK := Hid.mk' hbk
      have HYE := Hid.mk' hy
      have HDW : Hid (wf32 D) := by show wf32 _; rw [hD]; exact HWT.out k (by rw [← HMM.out]; exact hlt)
      obtain ⟨WN, hWN⟩ : ∃ WN, WN = (u8s D).toArray := ⟨_, rfl⟩
      have HWN := Hid.mk' hWN
      have cbk : wr.cell? ⟨nb, k, none⟩ = some (.int .i64 bk) := by rw [hbk]; exact grow_cell HGR.out (HCN.out k hlt)
      obtain ⟨A, c, hsl, hA⟩ := slice_fromT (b := pb) (off := po) (n := m) (cap := vc) (k := k + 1) (by omega) hvc
      have HSL := Hid.mk' hsl
      obtain ⟨u, hu, hbs⟩ := HAT.out wr (hGw wr (But.refl _ _)) k hlt
      rw [← hy] at hbs
      have hy256 : y.length = 256 := H256.out y (by rw [hy]; simp [List.getD, show k < path.length by rw [← HMM.out]; exact hlt])
      have HDG : Hid (∀ w', Grow wr w' → Calls Tryd.prog 29 #[.pointer none, .int .i64 bk, u] w' fun e w'' => e = .returned (dkey (bd bk y)) ∧ Grow w' w'') := fun w' k => tdig_nil (hbs.but k (fun _ _ _ h => h)) (HKH.out w' k).1 (HKH.out w' k).2 (by omega)
      have HUC : Hid (∀ w', Grow wr w' → w'.cell? ⟨pb, po + k, none⟩ = some u) := fun w' k => grow_cell k hu
      have HEX : Hid (∀ w', Grow wr w' → Calls Tryd.prog 28 #[.agg N, .int .i64 bk, .slice (some A) (m - (k + 1)) c, .agg M] w' fun e w'' => e = .returned (.tuple #[.agg WN, .bool true]) ∧ Grow w' w'') := fun w' kk => by
        have hv' := HV.out.grow ((HG1.out.trans HGR.out).trans kk)
        have e1 : Value.agg N = pval p pv := by rw [HN.out]
        have e2 : Value.agg M = dkey root := by rw [HMD.out]; rfl
        have e3 : Value.agg WN = dkey D := by rw [hWN]; rfl
        rw [e1, e2, e3, hD]
        unfold wantB
        by_cases hl : k + 1 = m
        · rw [if_pos (by rw [← HMM.out]; exact hl), show m - (k + 1) = 0 by omega]
          exact exp_top HRT.out.1
        · rw [if_neg (by rw [← HMM.out]; exact hl)]
          have hup := HS.out.up k (by rw [HBLM.out]; omega)
          obtain ⟨u2, hu2, hbs2⟩ := HAT.out w' (hGw w' kk) (k + 1) (by omega)
          rw [hA (by omega), show m - (k + 1) = (m - (k + 2)) + 1 by omega, hbk]
          exact exp_up hv' HLV.out hup.1 (by omega) (by omega) hu2 hbs2 (H256.out _ (by simp [List.getD, show k + 1 < path.length by rw [← HMM.out]; omega]))
      obtain ⟨DN, hDN⟩ : ∃ DN, DN = (u8s (bd bk y)).toArray := ⟨_, rfl⟩
      rw [show dkey (bd bk y) = .agg DN by rw [hDN]; rfl] at HDG
      have HDN := Hid.mk' hDN
      obtain ⟨ua, un, uc, hue⟩ := hbs.sl
      obtain ⟨r, hr⟩ : ∃ r : Bool, r = decide (bd bk y = D) := ⟨_, rfl⟩
      have HR := Hid.mk' hr
      have HEQ : Hid (∀ w', (Op.equalIn 10000 31 (.agg DN) (.agg WN)).run Tryd.prog w' = .ok r w') := fun w' => by
        rw [hDN, hWN, hr]; exact equalN ukt _ _ (bd_len _ _) HDW.out.1 w'
      obtain ⟨Z, hZ⟩ : ∃ Z, Z = u8s z32 := ⟨_, rfl⟩
      have hz := z32v
      rw [← hZ] at hz
      have HZL : Hid (Z.length = 32) := by show _ = _; rw [hZ]; rfl
      have HZZ := Hid.mk' hz
      obtain ⟨sl, hsl2⟩ : ∃ sl, sl = m - (k + 1) := ⟨_, rfl⟩
      rw [← hsl2] at HEX HSL
      have hwk : IntKind.i64.wrap ((k : Int) + 1) = ((k + 1 : Nat) : Int) := by rw [wrapI (by omega) (by omega)]; omega
      have HAG : Hid (∀ w', Grow wr w' → Blk w' (g + 1) 31 (u8s root)) := fun w' k => ((HM.out.arg.but HGW.out (fun h => h)).but HGR.out (fun h => h)).but k (fun h => h)
      have HCB2 : Hid (∀ w', Grow wr w' → ∀ j v, (pcells p pv)[j]? = some v → w'.cell? ((⟨g, 0, none⟩ : Addr).add j) = some v) := fun w' k => HCB.out w' ((HGW.out.trans HGR.out).trans k)
      subst hue
      clear hGw hbk hy hD hWN hsl hA hu hbs hy256 hDN hr hZ hsl2 hz HCB hgood hgr HAT
      go_upto_region 9 with fail
      refine region_chain [([0, 1, 2, 3, 4, 5, 6, 7, 8, 9, 10], 11), ([], 12)] [13] (Grow wr) (Grow wr) (by kernel_rfl) (by kernel_rfl) (fun _ _ h k => h.trans k) (fun _ h => h) ((But.refl _ wr).drew) ?_
      intro ι hne X hX
      refine still_val rfl (.agg N) rfl (fun x => by rw [HN.out]; exact exec_ldF Tryd.underlying25 rfl iPl (HCB2.out (X x) (hX x)) rfl rfl) ?_
      intro K hK; go_simp; refine hK _ ?_; clear hK K
      iterate 4 (refine still_step rfl (fun K hK => ?_); go_simp; refine hK _ ?_; clear hK K)
      refine still_val rfl (.slice (some A) sl c) rfl (fun x => exec_slc rfl rfl rfl rfl (HSL.out (X x))) ?_
      intro K hK; go_simp; refine hK _ ?_; clear hK K
      refine still_val rfl (.agg M) rfl (fun x => by rw [HMD.out]; exact run_load_arr ukt i32 (HAG.out (X x) (hX x)).cells0 HRT.out.1 rfl rfl) ?_
      intro K hK; go_simp; refine hK _ ?_; clear hK K
      refine still_call rfl (.tuple #[.agg WN, .bool true]) 28 #[.agg N, .int .i64 bk, .slice (some A) sl c, .agg M] rfl (fun _ => by kernel_rfl) (fun x => HEX.out (X x) (hX x)) ?_
      intro K hK; go_simp; refine hK _ ?_; clear hK K
      iterate 3 (refine still_step rfl (fun K hK => ?_); go_simp; refine hK _ ?_; clear hK K)
      refine still_nil ?_
      clear hX hne
      refine turn_run rfl rfl (fun u w' => ∃ g, u = .pointer (some ⟨g, 0, none⟩) ∧ wr.heap.size ≤ g ∧ Blk w' g 31 Z ∧ Grow wr w') (fun _ w' => Grow wr w') (fun _ w1 w2 h k => by
        obtain ⟨g, h1, h2, h3, h4⟩ := h
        exact ⟨g, h1, h2, h3.but k (fun h => h), h4.trans k⟩) (fun _ _ h => by obtain ⟨_, _, _, _, h4⟩ := h; exact h4) (.inr (fun _ _ h => h)) ?_ ?_
      · intro w6 hw6
        exact ⟨_, _, .inl (exec_allocF rfl (HZZ.out w6)), w6.heap.size, rfl, hw6.size, Blk.new rfl, hw6.alloc _⟩
      · rintro u ⟨wq, g15, rfl, hge, -, -⟩ Y hY
        go_simp
        refine hY _ ?_
        clear hY Y
        intro ι hne X hX
        refine still_nil ?_
        clear hX hne
        refine turn_run rfl rfl (fun _ w' => Blk w' g15 31 (u8s D) ∧ Grow wr w') (fun _ w' => Grow wr w') (fun _ w1 w2 h k => ⟨h.1.but k (fun h => h), h.2.trans k⟩) (fun _ _ h => h.2) (.inr (fun _ _ h => h)) ?_ ?_
        · rintro w6 ⟨g, e, h2, h3, h4⟩
          have e2 : g15 = g := by simpa using e
          subst e2
          exact turn_storeA (D := D) (L := Z) (v := .agg WN) i32 rfl rfl rfl (by rw [HWN.out]) HDW.out.1 HZL.out h3 (fun w7 hb7 hk7 => ⟨hb7, h4.then hk7 (fun i hi e => by omega)⟩)
        · rintro z - Y hY
          go_simp
          refine hY _ ?_
          clear hY Y
          intro ι hne X hX
          refine still_step rfl (fun K hK => ?_); go_simp; refine hK _ ?_; clear hK K
          refine still_nil ?_
          clear hX hne
          intro w7 hw7
          have HK7 := Hid.mk' hw7
          clear hw7
          go_upto_region 10 with fail
          obtain ⟨c9, hc9⟩ : ∃ c9 : Bool, (!r) = c9 := ⟨_, rfl⟩
          have HC9 := Hid.mk' hc9
          clear hc9
          refine region_chain [] [0, 1, 2, 3, 4, 5, 6, 7, 8, 9, 10, 11] (Grow w7) (Grow w7) (by kernel_rfl) (by kernel_rfl) (fun _ _ h k => h.trans k) (fun _ h => h) ((But.refl _ w7).drew) ?_
          intro ι hne X hX
          have cu : ∀ x, (X x).cell? ⟨pb, po + k, none⟩ = some (.slice ua un uc) := fun x => HUC.out (X x) (HK7.out.2.trans (hX x))
          iterate 8 (refine still_step rfl (fun K hK => ?_); go_simp; refine hK _ ?_; clear hK K)
          refine still_call rfl (.agg DN) 29 #[.pointer none, .int .i64 bk, .slice ua un uc] rfl (fun _ => by kernel_rfl) (fun x => HDG.out (X x) (HK7.out.2.trans (hX x))) ?_
          intro K hK; go_simp; refine hK _ ?_; clear hK K
          refine still_val rfl (.agg WN) rfl (fun x => by rw [HWN.out]; exact run_load_arr ukt i32 (HK7.out.1.but (hX x) (fun h => h)).cells0 HDW.out.1 rfl rfl) ?_
          intro K hK; go_simp; refine hK _ ?_; clear hK K
          refine still_val rfl (.bool c9) rfl (fun x => exec_bin3 rfl rfl rfl (by kernel_rfl) (HEQ.out (X x)) HC9.out) ?_
          intro K hK; go_simp; refine hK _ ?_; clear hK K
          refine still_step rfl (fun K hK => ?_); go_simp; refine hK _ ?_; clear hK K
          refine still_nil ?_
          clear hX hne cu
          intro w8 hw8
          have HG8 := Hid.mk' (HK7.out.2.trans hw8)
          clear hw8
          cases hr9 : r with
          | true =>
            have hc9 : c9 = false := by rw [← HC9.out, hr9]; rfl
            have HEQ2 : Hid (bd bk y = D) := by
              have := HR.out
              rw [hr9] at this
              show _ = _
              exact of_decide_eq_true this.symm
            subst hc9
            clear hr9 HEQ HC9 HR
            go_wp2
            refine ⟨⟨k + 1, by omega, by go_num, HGR.out.trans HG8.out, fun i hi => ?_⟩, by simp [intOf]; omega⟩
            by_cases hik : i = k
            · rw [hik, ← HBK.out, ← HYE.out, HEQ2.out, HD.out]
            · exact HGO.out i (by omega)
          | false =>
            have hc9 : c9 = true := by rw [← HC9.out, hr9]; rfl
            have HEQ2 : Hid (bd bk y ≠ D) := by
              have := HR.out
              rw [hr9] at this
              show ¬ (_ = _)
              exact of_decide_eq_false this.symm
            subst hc9
            clear hr9 HEQ HC9 HR
            go_wp2
            go_ret
            refine .inr ⟨fun hgd => HEQ2.out ?_, rfl, (HG1.out.trans HGR.out).trans HG8.out⟩
            have := hgd k (by rw [← HMM.out]; exact hlt)
            rw [HBK.out, HYE.out, this, HD.out]
            rfl
    · have hkm : k = m := by omega
      subst hkm
      obtain ⟨wo, hwo⟩ : ∃ wo, wo = wr := ⟨_, rfl⟩
      subst hwo
      have HGW2 : Hid (Grow w wo) := HG1.out.trans HGR.out
      have HGD : Hid (Good p bl path root) := fun i hi => HGO.out i (by rw [HMM.out]; exact hi)
      have HNN : Hid (own nb = .none) := HLG.out.top nb (by have h1 := HNB.out.1; have h2 := HM.out.grow.size; omega)
      have hnw : nb < wo.heap.size := Nat.lt_of_lt_of_le HNB.out.2 HGR.out.size
      have HCN2 : Hid (∀ w', But (fun b => own b ≠ .none) wo w' → ∀ i, i < k → w'.cell? ⟨nb, i, none⟩ = some (.int .i64 (bl.getD i 0))) := fun w' kk i hi => (World.cell?_of_block (kk.block nb hnw (fun e => e HNN.out))).trans (grow_cell HGR.out (HCN.out i hi))
      have H0 : Hid (LgOTo wo own lv (P ++ noteB bl path 0) wo) := by
        show LgOTo _ _ _ _ _
        rw [show noteB bl path 0 = [] by rfl, List.append_nil]
        exact LgOTo.refl (HLG.out.grow HGW2.out)
      clear HCN hgood hgr hnw
      go_upto_region 14 with fail
      go_loopw [71] (fun iv wq => ∃ j : Nat, j ≤ k ∧ iv = .int .i64 j ∧ LgOTo wo own lv (P ++ noteB bl path j) wq) (fun iv _ => k - (intOf iv).toNat)
      case atStart => exact ⟨0, Nat.zero_le _, rfl, H0.out⟩
      case round =>
        obtain ⟨j, hj, rfl, hlo⟩ := hrel
        have hbw : But (fun b => own b ≠ .none) w wr := (HGW2.out.mono (fun _ _ h => h.elim)).trans hlo.but
        have HLO := Hid.mk' hlo
        by_cases hjl : j < k
        · obtain ⟨hkw, hhw, -⟩ := HST.out wr hbw
          obtain ⟨own1, q1, q2, q3⟩ := hlo.ex
          obtain ⟨u, hu, hbs⟩ := HAT.out wr hbw j hjl
          obtain ⟨y, hy⟩ : ∃ y, y = path.getD j [] := ⟨_, rfl⟩
          obtain ⟨bk, hbk⟩ : ∃ bk, bk = bl.getD j 0 := ⟨_, rfl⟩
          have cbk : wr.cell? ⟨nb, j, none⟩ = some (.int .i64 bk) := by rw [hbk]; exact HCN2.out wr hlo.but j hjl
          have hy256 : y.length = 256 := H256.out y (by rw [hy]; simp [List.getD, show j < path.length by rw [← HMM.out]; exact hjl])
          rw [← hy] at hbs
          have HTD := Hid.mk' (tdig_any (x := bk) q3 hbs hkw hhw (by omega) (by rw [List.length_append, noteB_len]; have := HPL.out; omega))
          have hnt : noteB bl path (j + 1) = noteB bl path j ++ [(inp bk y, bd bk y)] := by rw [hbk, hy]; rfl
          have HNT := Hid.mk' hnt
          have HQ1 := Hid.mk' q1
          have HQ2 := Hid.mk' q2
          obtain ⟨ua, un, uc, rfl⟩ := hbs.sl
          clear hkw hhw q1 q2 q3 hbs hy hbk hy256 hnt hbw hlo
          go_wp2_with fail
          refine Calls.mono HTD.out ?_
          rintro e w9 ⟨rfl, hto⟩
          have hto2 := LgOTo.comp HLO.out.but HQ1.out HQ2.out hto
          rw [List.append_assoc, ← HNT.out] at hto2
          have HTO := Hid.mk' hto2
          clear hto hto2 HTD
          go_wp2
          exact ⟨⟨j + 1, by omega, by go_num, HTO.out⟩, by simp [intOf]; omega⟩
        · have hjk : j = k := by omega
          have HF : Hid (LgOTo w own lv (P ++ noteB bl path path.length) wr) := by rw [← HMM.out, ← hjk]; exact LgOTo.from HGW2.out hlo
          clear HLO hbw hlo
          go_wp2
          go_ret
          exact .inl ⟨HGD.out, rfl, HF.out⟩
end Go.Proofs.YtmlladpmecclbaaDoor
