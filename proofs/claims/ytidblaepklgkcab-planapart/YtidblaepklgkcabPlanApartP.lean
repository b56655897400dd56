/- No two children have one place, each place is one of a block of the next level, and nothing stands beyond the end: for any pages, any budget. No condition. -/
import Derived.Test.YtidblaepklgkcabPlApMath
import Derived.Test.YtidblaepklgkcabPlMake
import Derived.Test.YtidblaepklgkcabPast
import Derived.Laws.BitsAllLaws
import Derived.ProofKit
import Derived.OpenShut
import Derived.ChangeOld
import Derived.Below
namespace Go.Proofs.Ytidblaepklgkcab
open Go.ChangeShapes Go.WideShapes Go.ChangeAt Go.RowKit

theorem var_newE (w : World) : Blk (w.alloc (.cells (plc 0 0).toArray 30)) w.heap.size 30 ([] ++ plc 0 0 ++ []) := by
  rw [List.nil_append, List.append_nil]; exact Blk.new rfl
theorem var_growE {w w2 : World} (k : But (· = w.heap.size) (w.alloc (.cells (plc 0 0).toArray 30)) w2) : Grow w w2 :=
  ((But.refl (fun _ => False) w).alloc _).then k (fun j hj e => by omega)
theorem and_one_64 (a : Nat) (ha : a < 9223372036854775808) : bits .and .i64 (a : Int) 1 = ((a % 2 : Nat) : Int) := by
  show IntKind.i64.wrap ((BitVec.ofInt 64 (a : Int) &&& BitVec.ofInt 64 ((1 : Nat) : Int)).toNat : Int) = _
  rw [BitVec.toNat_and, ofInt_u64 a (by omega), ofInt_u64 1 (by omega), Nat.and_one_is_mod]
  simp [IntKind.wrap, IntKind.bits, IntKind.signed]
  omega
theorem or_64 (a b : Nat) (ha : a < 65536) (hb : b < 65536) : bits .or .i64 (a : Int) (b : Int) = ((a ||| b : Nat) : Int) := by
  have hx : a ||| b < 2 ^ 16 := Nat.or_lt_two_pow (by omega) (by omega)
  show IntKind.i64.wrap ((BitVec.ofInt 64 (a : Int) ||| BitVec.ofInt 64 (b : Int)).toNat : Int) = _
  rw [BitVec.toNat_or, ofInt_u64 a (by omega), ofInt_u64 b (by omega)]
  simp [IntKind.wrap, IntKind.bits, IntKind.signed]
  omega
theorem bit_no {s k : Nat} (hs : s < 65536) (h : s.testBit k = false) : bits .and .i64 ((s : Int) / 2 ^ k) 1 = 0 := by
  have e := and_one_64 (s / 2 ^ k) (Nat.lt_of_le_of_lt (Nat.div_le_self _ _) (by omega))
  rw [show ((s : Int) / 2 ^ k) = ((s / 2 ^ k : Nat) : Int) by simp, e]
  have h1 : (s / 2 ^ k) % 2 = 0 := by
    rw [Nat.testBit_eq_decide_div_mod_eq] at h
    have := of_decide_eq_false h
    omega
  rw [h1]; rfl
theorem sv_succ (p : Pn) (b : Nat) (k : Int) : sv p (b + 1) k = if (b : Int) < p.top ∧ (p.par b).block = k then sv p b k ||| 2 ^ (p.par b).at'.toNat else sv p b k := rfl
theorem exec_shlP {w w' : World} {o : Oper} {ρ : Operand → Value} {t t2 : TypeId} {x y : Operand} {u v r : Value} (ho : o.op = .binOp .shl t x y t2) (hx : ρ x = u) (hy : ρ y = v) (h : (binOp .shl t u v).run Try.prog w = .ok r w') : (execOp ρ o).run Try.prog w = .ok (.value r) w' := by
  unfold execOp
  simp [ho, hx, hy, h, eqGuard]
theorem shl_run (w : World) (k : Nat) (hk : k < 16) : (binOp .shl 3 (.int .i64 1) (.int .u64 (k : Int))).run Try.prog w = .ok (.int .i64 ((2 ^ k : Nat) : Int)) w := by
  rcases (by omega : k = 0 ∨ k = 1 ∨ k = 2 ∨ k = 3 ∨ k = 4 ∨ k = 5 ∨ k = 6 ∨ k = 7 ∨ k = 8 ∨ k = 9 ∨ k = 10 ∨ k = 11 ∨ k = 12 ∨ k = 13 ∨ k = 14 ∨ k = 15) with rfl | rfl | rfl | rfl | rfl | rfl | rfl | rfl | rfl | rfl | rfl | rfl | rfl | rfl | rfl | rfl <;> kernel_rfl
def svL (p : Pn) (h b : Nat) : List Value := (List.range h).map fun (k : Nat) => Value.int .i64 (sv p b (k : Int) : Int)
theorem svL_zero (p : Pn) (h : Nat) : svL p h 0 = List.replicate h (.int .i64 0) := by
  unfold svL
  apply List.ext_getElem?
  intro i
  by_cases hi : i < h
  · simp [hi]; rfl
  · rw [List.getElem?_eq_none (by simp; omega), List.getElem?_eq_none (by simp; omega)]
theorem svL_at {p : Pn} {h b k : Nat} (hk : k < h) : (svL p h b)[k]? = some (.int .i64 (sv p b (k : Int) : Int)) := by
  unfold svL
  rw [List.getElem?_map, List.getElem?_range hk]; rfl
theorem svL_len (p : Pn) (h b : Nat) : (svL p h b).length = h := by unfold svL; simp
theorem svL_same {p : Pn} {h b : Nat} (hb : ¬ (b : Int) < p.top) : svL p h (b + 1) = svL p h b := by
  unfold svL
  apply List.map_congr_left
  intro k _
  rw [sv_succ, if_neg (fun h => hb h.1)]
theorem svL_set {p : Pn} {h b k s : Nat} (hk : k < h) (hb : (b : Int) < p.top) (hp : (p.par b).block = (k : Int)) (hs : s = sv p b (k : Int) ||| 2 ^ (p.par b).at'.toNat) : (svL p h b).set k (.int .i64 (s : Int)) = svL p h (b + 1) := by
  apply List.ext_getElem?
  intro i
  rw [List.getElem?_set]
  by_cases hi : i < h
  · by_cases e : k = i
    · subst e
      rw [if_pos rfl, if_pos (by rw [svL_len]; exact hk), svL_at hk, sv_succ, if_pos ⟨hb, hp⟩, hs]
    · rw [if_neg e, svL_at hi, svL_at hi, sv_succ, if_neg (fun h => e (by have := h.2; omega))]
  · rw [if_neg (fun e => hi (by omega)), List.getElem?_eq_none (by rw [svL_len]; omega), List.getElem?_eq_none (by rw [svL_len]; omega)]
/-- What memory is amid PlanApart. -/
structure ApM (w wr : World) (g gs h : Nat) (p : Pn) (v : Value) (b : Nat) : Prop where
  box : Blk wr g 24 (pcells p v)
  seen : Blk wr gs 3 (svL p h b)
  grow : Grow w wr
  ne : g ≠ gs ∧ w.heap.size ≤ gs
theorem ApM.then {w wr w' : World} {g gs h : Nat} {p : Pn} {v : Value} {b : Nat} (k : ApM w wr g gs h p v b) (q : Grow wr w') : ApM w w' g gs h p v b :=
  ⟨k.box.but q (fun h => h), k.seen.but q (fun h => h), k.grow.trans q, k.ne⟩
theorem ApM.put {w wr w' : World} {g gs h : Nat} {p : Pn} {v : Value} {b b' : Nat} (k : ApM w wr g gs h p v b) (hb : Blk w' gs 3 (svL p h b')) (q : But (· = gs) wr w') : ApM w w' g gs h p v b' :=
  ⟨k.box.but q k.ne.1, hb, k.grow.then q (fun j hj e => by have := k.ne.2; omega), k.ne⟩
theorem plan_nums {n b : Nat} (h3 : 1 ≤ b) (h4 : b ≤ 256) : (plan n b).heads = ((bg (12 + 4 * b) 256 : Nat) : Int) ∧ (plan n b).journal = (plan n b).head + (plan n b).heads ∧ (plan n b).spill = (plan n b).journal + (b : Int) ∧ (plan n b).total = (plan n b).spill + (b : Int) ∧ (plan n b).budget = (b : Int) ∧ bg (12 + 4 * b) 256 ≤ 5 ∧ 12 + 4 * b ≤ 256 * bg (12 + 4 * b) 256 := by
  refine ⟨rfl, ?_, ?_, ?_, rfl, by unfold bg; omega, by unfold bg; omega⟩
  · show ((_ : Nat) : Int) = ((_ : Nat) : Int) + ((_ : Nat) : Int); omega
  · show ((_ : Nat) : Int) = ((_ : Nat) : Int) + (b : Int); omega
  · show ((_ : Nat) : Int) = ((_ : Nat) : Int) + (b : Int); omega
set_option maxRecDepth 100000 in
set_option maxHeartbeats 8000000 in
theorem planApart_walk (x y : Int) (w : World) (_ : (Lit.int .i64 x).wf = true) (_ : (Lit.int .i64 y).wf = true) : Calls Try.prog 3 #[.int .i64 x, .int .i64 y] w fun e w' => e = .returned (.bool true) ∧ Below w.heap.size w w' := by
  have hx1 := Int.emod_nonneg x (b := 400) (by decide)
  have hx2 := Int.emod_lt_of_pos x (b := 400) (by decide)
  have hy1 := Int.emod_nonneg y (b := 256) (by decide)
  have hy2 := Int.emod_lt_of_pos y (b := 256) (by decide)
  obtain ⟨n, hn⟩ : ∃ n : Nat, (n : Int) = 1 + x % 400 := ⟨(1 + x % 400).toNat, by omega⟩
  obtain ⟨b0, hb⟩ : ∃ b : Nat, (b : Int) = 1 + y % 256 := ⟨(1 + y % 256).toNat, by omega⟩
  have HP1 := Hid.mk' (pick_any x 400 w (by decide) (by decide))
  have HP2 := Hid.mk' (pick_any y 256 w (by decide) (by decide))
  have HOF := Hid.mk' (planof_any w n b0 (by omega) (by omega) (by omega) (by omega))
  have HMA := Hid.mk' (plan_mad (n := n) (b := b0) (by omega) (by omega))
  have HNM := Hid.mk' (plan_nums (n := n) (b := b0) (by omega) (by omega))
  have HNB : Hid (1 ≤ n ∧ n ≤ 4096 ∧ 1 ≤ b0 ∧ b0 ≤ 256) := Hid.mk' ⟨by omega, by omega, by omega, by omega⟩
  obtain ⟨X, hX⟩ : ∃ X, X = x % 400 := ⟨_, rfl⟩
  obtain ⟨Y, hY⟩ : ∃ Y, Y = y % 256 := ⟨_, rfl⟩
  rw [← hX] at HP1
  rw [← hY] at HP2
  have eX : 1 + X = (n : Int) := by rw [hX]; exact hn.symm
  have eY : 1 + Y = (b0 : Int) := by rw [hY]; exact hb.symm
  have bX : (n : Int) ≤ 400 := by omega
  have bY : (b0 : Int) ≤ 256 := by omega
  have bX0 : 0 ≤ X := by omega
  have bY0 : 0 ≤ Y := by omega
  have HAW := Hid.mk' (fun w => plawake_any w)
  clear hx1 hx2 hy1 hy2 hn hb hX hY
  go_enter Try.func3, Try.ntmps3
  go_wp2_with fail
  refine Calls.mono HP1.out ?_
  rintro e w' ⟨rfl, hw⟩
  have h3 := hw.symm
  subst h3
  clear hw HP1
  go_wp2_with fail
  refine Calls.mono HP2.out ?_
  rintro e w' ⟨rfl, hw⟩
  have h3 := hw.symm
  subst h3
  clear hw HP2
  go_wp2_with fail
  refine Calls.mono HOF.out ?_
  rintro e w1 ⟨v, rfl, ho, hg⟩
  have HPM := Hid.mk' (Pm.of HNB.out.1 HNB.out.2.1 ho)
  obtain ⟨va, vc, hve⟩ := ho.sl
  obtain ⟨P, hP⟩ : ∃ P, P = plan n b0 := ⟨_, rfl⟩
  have HPN : Hid (∀ wz, Pm wz n b0 v → Nums wz v P.levels) := fun wz h => by rw [hP]; exact h.nums
  rw [← hP] at hve HMA HNM ⊢
  have HAP := Hid.mk' HMA.out.apt
  have HG1 := Hid.mk' hg
  generalize P.levels.length = ln at hve
  subst hve
  clear hg ho hP HOF eX eY bX bX0 bY0
  go_upto_region 2 with (first
    | (refine wpList_runH rfl (exec_allocF rfl (zPl _)) ?_)
    | (refine wpList_store_at rfl _ _ _ rfl w1.heap.size 0 (pcells P (.slice va ln vc)) rfl rfl 24 [] (pcells Pn.zero noS) [] (var_new w1) rfl rfl iPl (pcells_one _ rfl) ?_; intro w2 hb2 hbut2; rw [List.nil_append, List.append_nil] at hb2)
    | fail)
  obtain ⟨g, hgg⟩ : ∃ g, g = w1.heap.size := ⟨_, rfl⟩
  have hg2 := var_grow hbut2
  rw [← hgg] at hb2 ⊢
  have HNX : Hid (∀ wz, Grow w2 wz → Nums wz (.slice va ln vc) P.levels) := fun wz kk => HPN.out _ ((HPM.out.grow hg2).grow kk)
  have HG2 := Hid.mk' (HG1.out.trans hg2)
  obtain ⟨h, hh⟩ : ∃ h : Nat, (h : Int) = P.head := ⟨P.head.toNat, by have := HAP.out.hd; have := HMA.out.pg; omega⟩
  have hh5 : h ≤ 5000 := by have := HAP.out.hd; omega
  have HH := Hid.mk' hh
  have hhi : (h : Int) ≤ 5000 := by omega
  have c5 : w2.cell? ⟨g, 5, none⟩ = some (.int .i64 (h : Int)) := by rw [hh]; exact hb2.cell 5
  have HMK := Hid.mk' (make_row (t := 22) Try.underlying22 infNum rfl (by decide) w2 h (by omega))
  obtain ⟨gs, hgs⟩ : ∃ g, g = w2.heap.size := ⟨_, rfl⟩
  obtain ⟨W2, hW2⟩ : ∃ W2, W2 = w2.alloc (.cells (List.replicate h (.int .i64 0)).toArray 3) := ⟨_, rfl⟩
  rw [← hgs, ← hW2] at HMK
  have hgW : Grow w2 W2 := by rw [hW2]; exact (But.refl _ w2).alloc _
  have HM0 : Hid (ApM w2 W2 g gs h P (.slice va ln vc) 0) := Hid.mk' ⟨hb2.but hgW (fun h => h), by rw [hW2, svL_zero]; exact Blk.new hgs.symm, hgW, by have := hb2.lt; omega, by omega⟩
  clear hgg hb2 hbut2 hg2 HPM HG1 HPN hh hh5 hgs hW2 hgW
  go_wp2_with (first
    | (refine wpList_runH rfl (exec_mkS (t := 22) (u := .int .i64 (h : Int)) (v := .int .i64 (h : Int)) (r := .slice (some ⟨gs, 0, none⟩) h h) (w' := W2) rfl rfl rfl HMK.out) ?_)
    | fail)
  clear HMK c5
  go_loopw [8] (fun iv wr => ∃ b : Nat, b ≤ h ∧ iv = .int .i64 b ∧ ApM w2 wr g gs h P (.slice va ln vc) b) (fun iv _ => h - (intOf iv).toNat)
  case atStart => exact ⟨0, Nat.zero_le _, rfl, HM0.out⟩
  case round =>
    clear HM0
    obtain ⟨b, hbh, rfl, hM⟩ := hrel
    have HM := Hid.mk' hM
    have c5 : wr.cell? ⟨g, 5, none⟩ = some (.int .i64 (h : Int)) := by rw [HH.out]; exact hM.box.cell 5
    clear hM
    by_cases hlt : b < h
    · have hlti : (b : Int) < (h : Int) := by omega
      have HLT := Hid.mk' hlt
      have HPR := Hid.mk' (parent_any wr P (.slice va ln vc) (b : Int) (HNX.out _ HM.out.grow) (by have := HMA.out.len; omega))
      obtain ⟨⟨pb, pa, pe⟩, hpc⟩ : ∃ pc, pc = P.par (b : Int) := ⟨_, rfl⟩
      rw [← hpc] at HPR
      unfold Pc.ret at HPR
      dsimp only at HPR
      have HPC := Hid.mk' hpc
      clear hpc hbh hlt
      go_wp2_with (first
        | (refine wpList_load_cells rfl _ _ rfl ⟨g, 0, none⟩ rfl (pcells P (.slice va ln vc)) _ HM.out.box.pl Try.underlying24 rfl iPl ?_)
        | fail)
      refine Calls.mono HPR.out ?_
      rintro e w4 ⟨rfl, hg4⟩
      have HM4 := Hid.mk' (HM.out.then hg4)
      clear hg4 HPR c5 HM
      go_upto_region 9 with (first
        | (refine wpList_runH rfl (exec_allocF rfl (zPc _)) ?_)
        | (refine wpList_store_at rfl _ _ _ rfl w4.heap.size 0 (plc pb pa) rfl rfl 30 [] (plc 0 0) [] (var_newE w4) rfl rfl iPc (plc_one _ _) ?_; intro w5 hb5 hbut5; rw [List.nil_append, List.append_nil] at hb5)
        | fail)
      obtain ⟨g9, hgg⟩ : ∃ g, g = w4.heap.size := ⟨_, rfl⟩
      have hg5 := var_growE hbut5
      rw [← hgg] at hb5 ⊢
      have HM5 := Hid.mk' (HM4.out.then hg5)
      have HU5 := Hid.mk' hb5
      have HTP := Hid.mk' (top_any w5 P (.slice va ln vc))
      have hG9 : g9 ≠ gs := by have := HM4.out.seen.lt; omega
      have HG9 := Hid.mk' hG9
      obtain ⟨tp, htp⟩ : ∃ t, t = P.top := ⟨_, rfl⟩
      rw [← htp] at HTP
      have HTE := Hid.mk' htp
      clear hgg hb5 hbut5 hg5 HM4 hG9 htp
      go_wp2_with (first
        | (refine wpList_load_cells rfl _ _ rfl ⟨g, 0, none⟩ rfl (pcells P (.slice va ln vc)) _ HM5.out.box.pl Try.underlying24 rfl iPl ?_)
        | fail)
      refine Calls.mono HTP.out ?_
      rintro e w6 ⟨rfl, hg6⟩
      have HM6 := Hid.mk' (HM5.out.then hg6)
      have HU6 := Hid.mk' (HU5.out.but hg6 (fun h => h))
      clear hg6 HTP HM5 HU5
      by_cases hbt : (b : Int) = tp
      · have hbb : ((b : Int) == tp) = true := by simpa using hbt
        have hpe : pe = 5 := by
          have h1 := HPC.out
          rw [hbt, HTE.out, HAP.out.top] at h1
          simp only [Pc.mk.injEq] at h1
          exact h1.2.2
        subst hpe
        have HSM : Hid (svL P h (b + 1) = svL P h b) := Hid.mk' (svL_same (by rw [← HTE.out]; omega))
        have HM7 : Hid (ApM w2 w6 g gs h P (.slice va ln vc) (b + 1)) := Hid.mk' ⟨HM6.out.box, by rw [HSM.out]; exact HM6.out.seen, HM6.out.grow, HM6.out.ne⟩
        clear hbt
        go_wp2
        exact ⟨⟨b + 1, by have := HLT.out; omega, by go_num, HM7.out⟩, by simp [intOf]; have := HLT.out; omega⟩
      · have hbb : ((b : Int) == tp) = false := by simpa using hbt
        have hbtp : (b : Int) < P.top := by have := HAP.out.hd; have := HH.out; have := HTE.out; omega
        obtain ⟨l1, l2, l3, l4, l5, l6, l7⟩ := HAP.out.led (b : Int) (by omega) hbtp
        have hnew := sv_new HAP.out hbtp
        rw [← HPC.out] at l1 l2 l3 l4 l5 l6 l7 hnew
        dsimp only at l1 l2 l3 l4 l5 l6 l7 hnew
        subst l1
        obtain ⟨kb, rfl⟩ : ∃ k : Nat, pb = (k : Int) := ⟨pb.toNat, by omega⟩
        obtain ⟨ka, rfl⟩ : ∃ k : Nat, pa = (k : Int) := ⟨pa.toNat, by omega⟩
        rw [Int.toNat_natCast] at hnew
        have hkh : kb < h := by have := HH.out; omega
        obtain ⟨s, hs⟩ : ∃ s, s = sv P b (kb : Int) := ⟨_, rfl⟩
        have hs16 : s < 65536 := by rw [hs]; exact sv_lt HAP.out _ b
        rw [← hs] at hnew
        have hand := bit_no hs16 hnew
        have HS := Hid.mk' hs
        have HCS : Hid (∀ wz, Grow w6 wz → wz.cell? ⟨gs, kb, none⟩ = some (.int .i64 (s : Int))) := fun wz kk => by
          rw [hs]
          exact ((HM6.out.seen.but kk (fun h => h)).cell kb).trans (svL_at hkh)
        have HC5 : Hid (∀ wz, Grow w6 wz → wz.cell? ⟨g, 5, none⟩ = some (.int .i64 (h : Int))) := fun wz kk => by rw [HH.out]; exact (HM6.out.box.but kk (fun h => h)).cell 5
        obtain ⟨pg, hpg⟩ : ∃ q, q = P.pages := ⟨_, rfl⟩
        rw [← hpg] at l3 l7
        have HC0 : Hid (∀ wz, Grow w6 wz → wz.cell? ⟨g, 0, none⟩ = some (.int .i64 pg)) := fun wz kk => by rw [hpg]; exact (HM6.out.box.but kk (fun h => h)).cell 0
        have HU0 : Hid (∀ wz, Grow w6 wz → wz.cell? ⟨g9, 0, none⟩ = some (.int .i64 (kb : Int))) := fun wz kk => (HU6.out.but kk (fun h => h)).cell 0
        have HU1 : Hid (∀ wz, Grow w6 wz → wz.cell? ⟨g9, 1, none⟩ = some (.int .i64 (ka : Int))) := fun wz kk => (HU6.out.but kk (fun h => h)).cell 1
        have m1 : ¬ (kb : Int) ≤ (b : Int) := by omega
        have m2 : ¬ (h : Int) ≤ (kb : Int) := by omega
        have m3 : ¬ (ka : Int) < 0 := by omega
        have m4 : ¬ (16 : Int) ≤ (ka : Int) := by omega
        have m5 : (kb : Int) < (h : Int) := by omega
        have m6 : (ka : Int) ≤ 15 := by omega
        have q1 : b < kb := by omega
        have q2 : kb < h := by omega
        have q3 : ka < 16 := by omega
        have hcv : IntKind.u64.wrap (ka : Int) = (ka : Int) := by rw [IntKind.wrap_u64]; omega
        have HBT := Hid.mk' hbtp
        have HKH := Hid.mk' hkh
        have HS16 := Hid.mk' hs16
        obtain ⟨t2, ht2⟩ : ∃ t : Nat, t = 2 ^ ka := ⟨_, rfl⟩
        have ht16 : t2 < 65536 := by rw [ht2]; exact Nat.pow_lt_pow_right (n := 16) (by decide) (by omega)
        obtain ⟨s2, hs2⟩ : ∃ t : Nat, t = s ||| t2 := ⟨_, rfl⟩
        have hor : bits .or .i64 (s : Int) (t2 : Int) = (s2 : Int) := by rw [or_64 s t2 hs16 ht16, hs2]
        have HT2 := Hid.mk' ht2
        have HSS : Hid ((svL P h b).set kb (.int .i64 (s2 : Int)) = svL P h (b + 1)) := Hid.mk' (svL_set hkh hbtp (by rw [← HPC.out]) (by rw [← HPC.out, hs2, hs, ht2]; rfl))
        clear hbt hbtp l2 l4 l5 l6 hnew hs hs16 hpg hkh ht2 ht16 hs2
        by_cases hpp : pg ≤ (b : Int)
        · have m7 : ¬ (8 : Int) ≤ (ka : Int) := by have := l7 hpp; omega
          have q4 : ka < 8 := by omega
          clear l7 l3
          go_upto_region 12 with fail
          refine region_chain [] [0, 1, 2, 3, 4, 5, 6, 7, 8, 9, 10, 11, 12, 13, 14, 15, 16, 17, 18, 19, 20, 21, 22, 23, 24, 25, 26, 27, 28, 29, 30, 31, 32, 33, 34, 35, 36, 37, 38, 39, 40, 41, 42, 43, 44, 45, 46, 47, 48] (Grow w6) (Grow w6) (by kernel_rfl) (by kernel_rfl) (fun _ _ h k => h.trans k) (fun _ h => h) ((But.refl _ w6).drew) ?_
          intro ι hne X hX
          have d0 : ∀ q, (X q).cell? ⟨g, 0, none⟩ = some (.int .i64 pg) := fun q => HC0.out _ (hX q)
          have d5 : ∀ q, (X q).cell? ⟨g, 5, none⟩ = some (.int .i64 (h : Int)) := fun q => HC5.out _ (hX q)
          have u0 : ∀ q, (X q).cell? ⟨g9, 0, none⟩ = some (.int .i64 (kb : Int)) := fun q => HU0.out _ (hX q)
          have u1 : ∀ q, (X q).cell? ⟨g9, 1, none⟩ = some (.int .i64 (ka : Int)) := fun q => HU1.out _ (hX q)
          have ds : ∀ q, (X q).cell? ⟨gs, kb, none⟩ = some (.int .i64 (s : Int)) := fun q => HCS.out _ (hX q)
          iterate 49 (refine still_step rfl (fun K hK => ?_); go_simp; refine hK _ ?_; clear hK K)
          refine still_nil ?_
          clear hX hne d0 d5 u0 u1 ds
          intro w7 hw7
          have HM7 := Hid.mk' (HM6.out.then hw7)
          have HG7 := Hid.mk' hw7
          clear hw7
          go_upto_region 14 with fail
          refine region_chain [([0, 1, 2, 3, 4, 5, 6, 7, 8, 9, 10, 11, 12, 13], 14)] [] (Grow w6) (Grow w7) (by kernel_rfl) (by kernel_rfl) (fun _ _ h k => h.trans k) (fun _ h => HG7.out.trans h) ((But.refl _ w7).drew) ?_
          intro ι hne X hX
          have u0 : ∀ q, (X q).cell? ⟨g9, 0, none⟩ = some (.int .i64 (kb : Int)) := fun q => HU0.out _ (hX q)
          have u1 : ∀ q, (X q).cell? ⟨g9, 1, none⟩ = some (.int .i64 (ka : Int)) := fun q => HU1.out _ (hX q)
          have ds : ∀ q, (X q).cell? ⟨gs, kb, none⟩ = some (.int .i64 (s : Int)) := fun q => HCS.out _ (hX q)
          iterate 11 (refine still_step rfl (fun K hK => ?_); go_simp; refine hK _ ?_; clear hK K)
          refine still_val rfl (.int .i64 (t2 : Int)) rfl (fun q => exec_shlP rfl rfl rfl (by rw [HT2.out]; exact shl_run _ ka q3)) ?_
          intro K hK; go_simp; refine hK _ ?_; clear hK K
          iterate 2 (refine still_step rfl (fun K hK => ?_); go_simp; refine hK _ ?_; clear hK K)
          refine still_nil ?_
          clear u0 u1 ds hX hne X ι
          refine turn_run rfl rfl (fun _ w' => ApM w2 w' g gs h P (.slice va ln vc) (b + 1)) (fun _ _ => True) (fun _ _ _ h k => h.then k) (fun _ _ _ => trivial) (.inl (by kernel_rfl)) ?_ ?_
          · intro w8 hw8
            have hm8 := HM7.out.then hw8
            refine turn_store (g := gs) (i := kb) (v := .int .i64 (s2 : Int)) iIn rfl rfl rfl rfl hm8.seen (by rw [svL_len]; exact HKH.out) ?_
            refine hm8.put ?_ (But.set1 w8 gs kb _)
            rw [← HSS.out]
            exact hm8.seen.set kb _
          rintro v5 - Y hY
          go_simp
          refine hY _ ?_
          clear hY Y
          intro ι hne X hX
          refine still_nil ?_
          clear hX hne X ι
          intro w9 hw9
          have HM9 := Hid.mk' hw9
          clear hw9
          go_wp2
          exact ⟨⟨b + 1, by have := HLT.out; omega, by go_num, HM9.out⟩, by simp [intOf]; have := HLT.out; omega⟩
        · have hppf : decide (pg ≤ (b : Int)) = false := decide_eq_false hpp
          have hppl : (b : Int) < pg := by omega
          clear l7 l3
          go_upto_region 12 with fail
          refine region_chain [] [0, 1, 2, 3, 4, 5, 6, 7, 8, 9, 10, 11, 12, 13, 14, 15, 16, 17, 18, 19, 20, 21, 22, 23, 24, 25, 26, 27, 28, 29, 30, 31, 32, 33, 34, 35, 36, 37, 38, 39, 40, 41, 42, 43, 44, 45, 46, 47, 48] (Grow w6) (Grow w6) (by kernel_rfl) (by kernel_rfl) (fun _ _ h k => h.trans k) (fun _ h => h) ((But.refl _ w6).drew) ?_
          intro ι hne X hX
          have d0 : ∀ q, (X q).cell? ⟨g, 0, none⟩ = some (.int .i64 pg) := fun q => HC0.out _ (hX q)
          have d5 : ∀ q, (X q).cell? ⟨g, 5, none⟩ = some (.int .i64 (h : Int)) := fun q => HC5.out _ (hX q)
          have u0 : ∀ q, (X q).cell? ⟨g9, 0, none⟩ = some (.int .i64 (kb : Int)) := fun q => HU0.out _ (hX q)
          have u1 : ∀ q, (X q).cell? ⟨g9, 1, none⟩ = some (.int .i64 (ka : Int)) := fun q => HU1.out _ (hX q)
          have ds : ∀ q, (X q).cell? ⟨gs, kb, none⟩ = some (.int .i64 (s : Int)) := fun q => HCS.out _ (hX q)
          iterate 49 (refine still_step rfl (fun K hK => ?_); go_simp; refine hK _ ?_; clear hK K)
          refine still_nil ?_
          clear hX hne d0 d5 u0 u1 ds
          intro w7 hw7
          have HM7 := Hid.mk' (HM6.out.then hw7)
          have HG7 := Hid.mk' hw7
          clear hw7
          go_upto_region 14 with fail
          refine region_chain [([0, 1, 2, 3, 4, 5, 6, 7, 8, 9, 10, 11, 12, 13], 14)] [] (Grow w6) (Grow w7) (by kernel_rfl) (by kernel_rfl) (fun _ _ h k => h.trans k) (fun _ h => HG7.out.trans h) ((But.refl _ w7).drew) ?_
          intro ι hne X hX
          have u0 : ∀ q, (X q).cell? ⟨g9, 0, none⟩ = some (.int .i64 (kb : Int)) := fun q => HU0.out _ (hX q)
          have u1 : ∀ q, (X q).cell? ⟨g9, 1, none⟩ = some (.int .i64 (ka : Int)) := fun q => HU1.out _ (hX q)
          have ds : ∀ q, (X q).cell? ⟨gs, kb, none⟩ = some (.int .i64 (s : Int)) := fun q => HCS.out _ (hX q)
          iterate 11 (refine still_step rfl (fun K hK => ?_); go_simp; refine hK _ ?_; clear hK K)
          refine still_val rfl (.int .i64 (t2 : Int)) rfl (fun q => exec_shlP rfl rfl rfl (by rw [HT2.out]; exact shl_run _ ka q3)) ?_
          intro K hK; go_simp; refine hK _ ?_; clear hK K
          iterate 2 (refine still_step rfl (fun K hK => ?_); go_simp; refine hK _ ?_; clear hK K)
          refine still_nil ?_
          clear u0 u1 ds hX hne X ι
          refine turn_run rfl rfl (fun _ w' => ApM w2 w' g gs h P (.slice va ln vc) (b + 1)) (fun _ _ => True) (fun _ _ _ h k => h.then k) (fun _ _ _ => trivial) (.inl (by kernel_rfl)) ?_ ?_
          · intro w8 hw8
            have hm8 := HM7.out.then hw8
            refine turn_store (g := gs) (i := kb) (v := .int .i64 (s2 : Int)) iIn rfl rfl rfl rfl hm8.seen (by rw [svL_len]; exact HKH.out) ?_
            refine hm8.put ?_ (But.set1 w8 gs kb _)
            rw [← HSS.out]
            exact hm8.seen.set kb _
          rintro v5 - Y hY
          go_simp
          refine hY _ ?_
          clear hY Y
          intro ι hne X hX
          refine still_nil ?_
          clear hX hne X ι
          intro w9 hw9
          have HM9 := Hid.mk' hw9
          clear hw9
          go_wp2
          exact ⟨⟨b + 1, by have := HLT.out; omega, by go_num, HM9.out⟩, by simp [intOf]; have := HLT.out; omega⟩
    · have hbe : b = h := by omega
      have hlti : ¬ (b : Int) < (h : Int) := by omega
      have hM := HM.out
      rw [hbe] at hM
      have HMh := Hid.mk' hM
      obtain ⟨pn, hpn⟩ : ∃ q : Nat, (q : Int) = P.pages := ⟨P.pages.toNat, by have := HMA.out.pg; omega⟩
      have HPN2 := Hid.mk' hpn
      have c0 : wr.cell? ⟨g, 0, none⟩ = some (.int .i64 (pn : Int)) := by rw [hpn]; exact hM.box.cell 0
      have hpnb : pn ≤ h ∧ pn ≤ 5000 := by have := HAP.out.hd; have := HH.out; omega
      have HPB := Hid.mk' hpnb
      have hpi : (pn : Int) ≤ 5000 := by omega
      clear hM hbe hpn hpnb hbh hlt
      go_wp2
      have c5h : wr.cell? ⟨g, 5, none⟩ = some (.int .i64 (h : Int)) := by rw [HH.out]; exact HMh.out.box.cell 5
      go_loopw [11] (fun iv wz => ∃ q : Nat, pn ≤ q ∧ q ≤ h ∧ iv = .int .i64 q ∧ wz = wr) (fun iv _ => h - (intOf iv).toNat)
      case atStart => exact ⟨pn, Nat.le_refl _, HPB.out.1, rfl, rfl⟩
      case round =>
        obtain ⟨q, hq1, hq2, rfl, rfl⟩ := hrel
        by_cases hql : q < h
        · have hqi : (q : Int) < (h : Int) := by omega
          have hnz := sv_all HAP.out HH.out (z := (q : Int)) (by have := HPN2.out; omega) (by have := HH.out; omega)
          obtain ⟨s, hs⟩ : ∃ s, s = sv P h (q : Int) := ⟨_, rfl⟩
          have cs : wr.cell? ⟨gs, q, none⟩ = some (.int .i64 (s : Int)) := by rw [hs]; exact (HMh.out.seen.cell q).trans (svL_at hql)
          have hs0 : ((s : Int) == 0) = false := by
            have : (s : Int) ≠ 0 := by rw [hs]; omega
            simpa using this
          have HQ := Hid.mk' (And.intro hq1 hql)
          clear hnz hs hq1 hq2 hql
          go_wp2
          exact ⟨⟨q + 1, by have := HQ.out; omega, by have := HQ.out; omega, by go_num, trivial⟩, by simp [intOf]; have := HQ.out; omega⟩
        · have hqi : ¬ (q : Int) < (h : Int) := by omega
          obtain ⟨k1, k2, k3, k4, k5, k6, k7⟩ := HNM.out
          have d1 : wr.cell? ⟨g, 1, none⟩ = some (.int .i64 P.budget) := HMh.out.box.cell 1
          have d6 : wr.cell? ⟨g, 6, none⟩ = some (.int .i64 P.heads) := HMh.out.box.cell 6
          have d7 : wr.cell? ⟨g, 7, none⟩ = some (.int .i64 P.journal) := HMh.out.box.cell 7
          have d8 : wr.cell? ⟨g, 8, none⟩ = some (.int .i64 P.spill) := HMh.out.box.cell 8
          have d9 : wr.cell? ⟨g, 9, none⟩ = some (.int .i64 P.total) := HMh.out.box.cell 9
          obtain ⟨hs, r6⟩ : ∃ q, q = P.heads := ⟨_, rfl⟩
          obtain ⟨jr, r7⟩ : ∃ q, q = P.journal := ⟨_, rfl⟩
          obtain ⟨sp, r8⟩ : ∃ q, q = P.spill := ⟨_, rfl⟩
          obtain ⟨tt, r9⟩ : ∃ q, q = P.total := ⟨_, rfl⟩
          obtain ⟨bd, r1⟩ : ∃ q, q = P.budget := ⟨_, rfl⟩
          have hbd := HNB.out
          have hHH := HH.out
          rw [← r6] at d6 k1 k2
          rw [← r7] at d7 k2 k3
          rw [← r8] at d8 k3 k4
          rw [← r9] at d9 k4
          rw [← r1] at d1 k5
          have s1 : (h : Int) + hs = jr := by omega
          have s2 : jr + bd = sp := by omega
          have s3 : sp + bd = tt := by omega
          have s4 : 12 + 4 * bd ≤ 256 * hs := by omega
          have s5 : tt ≤ 65536 := by omega
          have b1 : 0 ≤ bd := by omega
          have b2 : bd ≤ 256 := by omega
          have b3 : 0 ≤ hs := by omega
          have b4 : hs ≤ 5 := by omega
          have b5 : jr ≤ 6000 := by omega
          have b6 : sp ≤ 7000 := by omega
          have b7 : 0 ≤ jr := by omega
          have b8 : 0 ≤ sp := by omega
          have e1 : (jr == jr) = true := by simp
          have e2 : (sp == sp) = true := by simp
          have e3 : (tt == tt) = true := by simp
          clear k1 k2 k3 k4 k5 k6 k7 r6 r7 r8 r9 r1 hbd hHH hq1 hq2 hql
          go_wp2_with fail
          refine Calls.mono (HAW.out _) ?_
          rintro e w9 ⟨rfl, hg9⟩
          have HG9 := Hid.mk' (HG2.out.trans (HMh.out.grow.trans hg9))
          clear hg9
          go_wp2
          go_ret
          exact ⟨rfl, HG9.out.below (Nat.le_refl _) (fun _ _ h => h)⟩
set_option maxRecDepth 100000 in
theorem planApart_lifted (os : Os) (started : os.Started) (H : Type) (enc : TypeId × Value → H) :
    ReturnsInHanded {} Try.checked os 3 .any (Rows.planApartSpec.pre6 enc Try.prog Try.f3 Rows.planApartRow.domain false) (Rows.planApartSpec.post enc Try.prog Try.f3 false true false false) := by
  refine returnsInHanded_of_change (C := Try.checked) (by kernel_rfl) started (by kernel_rfl) Try.func3
    (ChangeSpec.witness6 (enc := enc) (C := Try.checked) false ⟨#[], #[.int .i64 0, .int .i64 0], []⟩ 8 (by kernel_rfl) (by kernel_rfl) (by kernel_rfl) (by kernel_rfl)) ?_
  intro W base args ds gs before hval0 hW hcnd _
  have hval : ∀ (j : Nat) t v, Try.f3.params[j]? = some t → args[j]? = some v → Value.okWide Try.prog W .any base t v := hval0
  have hW' := hW
  obtain ⟨p, q, hA0, hV, rfl, hfz, hnd⟩ := hW
  have hA : DataW.TrodAll enc Try.prog W 0 (fun _ => true) true Try.f3.params.toList args.toList ds p := hA0
  rw [Try.params3] at hA hval
  obtain ⟨v0, vs0, d0, ds0, p0, q0, hargs, rfl, rfl, h0, r0⟩ := trodAll_cons hA
  obtain ⟨v1, vs1, d1, ds1, p1, q1, rfl, rfl, rfl, h1, r1⟩ := trodAll_cons r0
  obtain ⟨rfl, rfl, rfl⟩ := trodAll_nil r1
  obtain rfl : args = #[v0, v1] := by cases args; simp_all
  obtain ⟨rfl, rfl⟩ := trodVars_none hV
  obtain ⟨a0, rfl, rfl, rfl, w0⟩ := open_int Try.underlying3 (hval 0 3 v0 rfl rfl) h0
  obtain ⟨a1, rfl, rfl, rfl, w1⟩ := open_int Try.underlying3 (hval 1 3 v1 rfl rfl) h1
  clear hA0 hval0
  refine (planApart_walk a0 a1 W w0 w1).mono fun e W' ⟨he, bel⟩ => ?_
  subst he
  exact ⟨_, rfl, _, _, _, [], _, [], hW', trodAll_mk1 (shut_bool Try.underlying4 _), (trodAll_cons_mk (shut_int Try.underlying3 w0) (trodAll_cons_mk (shut_int Try.underlying3 w1) trodAll_mk0)), rfl, bel.frame _, fun h => by cases h⟩

theorem planApart_holds : Rows.PlanApartSaid :=
  OpenClaim.holds_of_wide 3 Try.f3 rfl rfl rfl rfl rfl rfl rfl ⟨rfl, rfl, rfl, rfl, rfl⟩ rfl rfl rfl rfl rfl (by kernel_rfl) Try.func3 (by kernel_rfl)
    (of_decide_eq_true (by kernel_rfl)) (by unfold Func.isWrapper; first | (rw [if_pos (by decide +kernel)]; kernel_rfl) | (rw [if_neg (by decide +kernel)]; exact ⟨rfl, rfl⟩))
    (fun os started H enc _ => planApart_lifted os started H enc)
#print axioms planApart_holds
end Go.Proofs.Ytidblaepklgkcab
