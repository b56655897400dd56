/- RefJoin, TrRef, PlRef, TrMade, TrAwake, Parts. -/
import Derived.Test.YtbidllclcedjbaaDoorAllB
import Derived.Test.YtbidllclcedjbaaDoorAllD
import Derived.Test.YtbidllclcedjbaaDoorAllE
import Derived.Test.YtbidllclcedjbaaDoorAllC
/- The reference's Join. -/
namespace Go.Proofs.YtbidllclcedjbaaDoor
open Go.RowKit

/-- append, by what it was seen to give. -/
theorem wpList_append_seen {w w' : World} {ops : Array Oper} {rest : List Oper} {o : Oper} {a : Act} {Q : Exit → Act → World → Prop} (hgd : o.guard = none) (s x : Operand) (t : TypeId)
    (ho : o.op = .call { callee := .builtin .append, args := #[s, x], argTypes := #[t, t] }) (vs vx : Value) (hs : a.eval s = vs) (hx : a.eval x = vx) {v' : Value}
    (hr : (Builtin.append_ #[t, t] o.type #[vs, vx]).run Tryd.prog w = .ok v' w')
    (h : wpList Tryd.prog ops Q rest (a.put o.dst v') w') : wpList Tryd.prog ops Q (o :: rest) a w :=
  wpList_plain hgd fun _ hK => by
    unfold Oper.wp execOp
    simp only [ho, resolve, invoke, builtin, Sem.run_bind, Sem.run_pure, Result.andThen_ok, List.map_toArray, List.map_cons, List.map_nil, hs, hx, hr]
    exact hK _ _ h

/-- Bytes behind bytes that are the call's own. -/
theorem append_bytes {w : World} {base : Nat} {v u : Value} {zs ys : List Nat} (ty : TypeId) (hv : Ow w base v zs) (hu : Bs w u ys) (hl : zs.length + ys.length ≤ 140737488355328) (hb : base ≤ w.heap.size) :
    ∃ v' w', (Builtin.append_ #[22, 22] ty #[v, u]).run Tryd.prog w = .ok v' w' ∧ Ow w' base v' (zs ++ ys) ∧ w.grownBy w' v.ownBlock := by
  obtain ⟨i0, hi, hz0, hz1, hz2⟩ := info_parts u8info
  have hlt : ∀ z ∈ zs ++ ys, z < 256 := by
    intro z hz
    rcases List.mem_append.1 hz with h | h
    · exact hv.lt z h
    · exact hu.1 z h
  obtain ⟨ao, cap, rfl, hnone, hcells⟩ := hu.gen
  cases ao with
  | none =>
    have hy : ys = [] := List.eq_nil_of_length_eq_zero (hnone rfl).1
    subst hy
    obtain rfl : cap = 0 := (hnone rfl).2
    have hr := run_append_owned_none (P := Tryd.prog) w base 22 ty 5 i0 1 Tryd.underlying22 hi _ zs.length (u8s zs) hv.own
    exact ⟨v, w, hr, by simpa using hv, World.grownBy.refl _ _⟩
  | some ad =>
    obtain ⟨v', w', hr, ho, hg, _⟩ := run_append_own (P := Tryd.prog) w base 22 ty 5 i0 _ 1 1 Tryd.underlying22 hi hz0 hz1 hz2 rfl (by decide) v zs.length (u8s zs) hv.own ad ys.length cap (u8s ys) (by simp [u8s]) (hcells ad rfl) (u8s_one _) (by unfold maxLen; omega) (by omega) hb
    refine ⟨v', w', hr, ⟨hlt, by simp; omega, ?_⟩, hg⟩
    rw [List.length_append, u8s_append]; exact ho

end Go.Proofs.YtbidllclcedjbaaDoor
/- tree's reference: Input, Digest. -/
namespace Go.Proofs.YtbidllclcedjbaaDoor
open Go.RowKit

theorem be4 (n : Nat) : be n 4 = [n / 16777216 % 256, n / 65536 % 256, n / 256 % 256, n % 256] := by
  simp [be]
set_option maxRecDepth 100000 in
set_option maxHeartbeats 4000000 in
theorem rinput_any {w : World} {v : Value} {b : List Nat} {x : Int} (hb : Bs w v b) (hl : b.length ≤ 1000000) :
    Calls Tryd.prog 34 #[.int .i64 x, v] w fun e w' => ∃ v', e = .returned v' ∧ Ow w' w.heap.size v' (inp x b) ∧ Grow w w' := by
  obtain ⟨n, hnx⟩ : ∃ n, n = u32of x := ⟨_, rfl⟩
  have hn4 : n < 4294967296 := by rw [hnx]; exact u32of_lt x
  have hw1 : IntKind.u32.wrap x = (n : Int) := by rw [hnx, u32of_cast]; rfl
  obtain ⟨d3, h3⟩ : ∃ d, d = n / 16777216 := ⟨_, rfl⟩
  obtain ⟨d2, h2⟩ : ∃ d, d = n / 65536 % 256 := ⟨_, rfl⟩
  obtain ⟨d1, h1⟩ : ∃ d, d = n / 256 % 256 := ⟨_, rfl⟩
  obtain ⟨d0, h0⟩ : ∃ d, d = n % 256 := ⟨_, rfl⟩
  have hbe : inp x b = [1, d3, d2, d1, d0] ++ b := by rw [inp, ← hnx, be4, h3, h2, h1, h0, Nat.mod_eq_of_lt (a := n / 16777216) (by omega)]
  rw [hbe]
  have e3 : (n : Int) / 16777216 = (d3 : Int) := by omega
  have e2 : (n : Int) / 65536 % 256 = (d2 : Int) := by omega
  have e1 : (n : Int) / 256 % 256 = (d1 : Int) := by omega
  have e0 : (n : Int) % 256 = (d0 : Int) := by omega
  have HLT : Hid (d3 < 256 ∧ d2 < 256 ∧ d1 < 256 ∧ d0 < 256) := by show _ ∧ _ ∧ _ ∧ _; omega
  have HB := Hid.mk' hb
  have HL := Hid.mk' hl
  obtain ⟨a1, n1, c1, rfl⟩ := hb.sl
  obtain ⟨W0, hW0⟩ : ∃ W0, W0 = w.alloc (.cells #[.int .u8 1, .int .u8 (d3 : Int), .int .u8 (d2 : Int), .int .u8 (d1 : Int), .int .u8 (d0 : Int)] 5) := ⟨_, rfl⟩
  have hg0 : Grow w W0 := by rw [hW0]; exact (But.refl _ w).alloc _
  have hbk : Blk W0 w.heap.size 5 (u8s [1, d3, d2, d1, d0]) := by rw [hW0]; exact Blk.new rfl
  have hlt := HLT.out
  have hown : Ow W0 w.heap.size (.slice (some ⟨w.heap.size, 0, none⟩) 5 5) [1, d3, d2, d1, d0] := by
    have := block_own (B := w.heap.size) hbk (Nat.le_refl _) (fun z hz => by
      simp only [List.mem_cons, List.not_mem_nil, or_false] at hz
      omega) (by simp)
    exact this
  obtain ⟨v', w', hrun, ho, hgr⟩ := append_bytes 22 hown (hb.but hg0 (fun _ _ _ h => h)) (by simp; omega) hg0.size
  have HRUN := Hid.mk' hrun
  have HO := Hid.mk' ho
  have HG : Hid (Grow w w') := hg0.grown hgr (fun k hk hlt => by cases hk; exact absurd hlt (Nat.lt_irrefl _))
  have HW0 := Hid.mk' hW0
  clear hb hl hnx hbe h3 h2 h1 h0 hg0 hbk hlt hown hrun ho hgr hW0
  go_enter Tryd.func34, Tryd.ntmps34
  go_upto_region 3 with fail
  rw [← HW0.out]
  go_wp2_with (first
    | (refine wpList_append_seen rfl _ _ _ rfl _ _ rfl rfl HRUN.out ?_)
    | fail)
  go_ret
  exact ⟨_, rfl, HO.out, HG.out⟩
set_option maxRecDepth 100000 in
set_option maxHeartbeats 4000000 in
theorem rdig_any {w : World} {v : Value} {b : List Nat} {x : Int} (hb : Bs w v b) (hl : b.length ≤ 1000000) :
    Calls Tryd.prog 13 #[.int .i64 x, v] w fun e w' => e = .returned (dkey (bd x b)) ∧ Grow w w' := by
  obtain ⟨Z, hZ⟩ : ∃ Z, Z = u8s z32 := ⟨_, rfl⟩
  have hz := z32v
  rw [← hZ] at hz
  have HZL : Hid (Z.length = 32) := by show _ = _; rw [hZ]; rfl
  obtain ⟨g0, hg0⟩ : ∃ g, g = w.heap.size := ⟨_, rfl⟩
  obtain ⟨W0, hW0⟩ : ∃ W0, W0 = w.alloc (.cells Z.toArray 26) := ⟨_, rfl⟩
  have hT0 : Grow w W0 := by rw [hW0]; exact (But.refl _ w).alloc _
  have HR0 : Hid (Blk W0 g0 26 Z) := by show Blk _ _ _ _; rw [hW0]; exact Blk.new hg0.symm
  have HI := Hid.mk' (rinput_any (x := x) (hb.but hT0 (fun _ _ _ h => h)) hl)
  have HT0 := Hid.mk' hT0
  have HG0 := Hid.mk' hg0
  have HW0 := Hid.mk' hW0
  have HL := Hid.mk' hl
  obtain ⟨D, hD⟩ : ∃ D, D = bd x b := ⟨_, rfl⟩
  have HD := Hid.mk' hD
  have HDL : Hid (D.length = 32) := by show _ = _; rw [hD]; exact bd_len _ _
  rw [← hD]
  obtain ⟨a1, n1, c1, rfl⟩ := hb.sl
  clear hb hl hZ hg0 hW0 hT0 hD
  go_enter Tryd.func13, Tryd.ntmps13
  go_wp2_with fail
  rw [← HW0.out, ← HG0.out]
  refine Calls.mono HI.out ?_
  rintro e w1 ⟨v1, rfl, ho1, hg1⟩
  have hof := refOf_any ho1.bs (by rw [inp_len]; have := HL.out; omega)
  rw [show digest (inp x b) = D by rw [HD.out]; rfl] at hof
  have HOF := Hid.mk' hof
  have HG1 := Hid.mk' (HT0.out.trans hg1)
  have HR1 := Hid.mk' (HR0.out.but hg1 (fun h => h))
  obtain ⟨a2, n2, c2, rfl⟩ := ho1.bs.sl
  clear hof hg1 ho1 HI HR0
  go_wp2_with fail
  refine Calls.mono HOF.out ?_
  rintro e w2 ⟨rfl, hg2⟩
  have HG2 := Hid.mk' (HG1.out.trans hg2)
  have HR2 := Hid.mk' (HR1.out.but hg2 (fun h => h))
  clear hg2 HOF HR1
  go_wp2_with (first
    | (refine wpList_store_u8s i32 rfl _ _ rfl g0 D HDL.out rfl rfl Z HZL.out HR2.out ?_; intro W9 hb9 hbut9)
    | fail)
  refine bodyPost_ret (results_cell_row rfl _ _ g0 _ _ _ _ rfl hb9 ukt rfl (by rw [i32]; simp [HDL.out])) rfl ⟨rfl, ?_⟩
  exact HG2.out.then hbut9 (fun i hi e => by have := HG0.out; omega)
end Go.Proofs.YtbidllclcedjbaaDoor
/- The reference's begun, Of, Same. -/
namespace Go.Proofs.YtbidllclcedjbaaDoor
open Go.RowKit

set_option maxRecDepth 100000 in
theorem rbegun_any (w : World) (n s : Nat) (h1 : n ≤ 100000) (h0 : 1 ≤ s) (h2 : s ≤ 100000) : Calls Tryd.prog 54 #[.int .i64 (n : Int), .int .i64 (s : Int)] w fun e w' => e = .returned (.int .i64 (bg n s : Int)) ∧ w' = w := by
  obtain ⟨N, hN⟩ : ∃ N : Int, N = (n : Int) := ⟨_, rfl⟩
  obtain ⟨S, hS⟩ : ∃ S : Int, S = (s : Int) := ⟨_, rfl⟩
  rw [← hN, ← hS]
  have hN1 : N ≤ 100000 := by omega
  have hS0 : 1 ≤ S := by omega
  have hS1 : S ≤ 100000 := by omega
  have HB : Hid (∀ k : Nat, (k * s < n ↔ k < bg n s)) := fun k => by
    unfold bg
    rw [Nat.lt_div_iff_mul_lt (by omega)]
    omega
  have HNS := Hid.mk' (And.intro hN hS)
  have HBB : Hid (bg n s ≤ 200000) := Hid.mk' (Nat.le_trans (Nat.div_le_self _ _) (by omega))
  clear hN hS h1 h0 h2
  go_enter Tryd.func54, Tryd.ntmps54
  go_wp2
  go_loopw [5] (fun kv wr => ∃ k : Nat, kv = .int .i64 k ∧ k ≤ bg n s ∧ wr = w) (fun kv _ => bg n s - (intOf kv).toNat)
  case atStart => exact ⟨0, rfl, Nat.zero_le _, rfl⟩
  case round =>
    obtain ⟨k, rfl, hk, rfl⟩ := hrel
    have hki : (k : Int) ≤ 200000 := by have := HBB.out; omega
    have hmx : (k : Int) * S = ((k * s : Nat) : Int) := by rw [HNS.out.2, Int.natCast_mul]
    obtain ⟨M, hM⟩ : ∃ M : Int, M = ((k * s : Nat) : Int) := ⟨_, rfl⟩
    rw [← hM] at hmx
    have hM1 : M ≤ 30000000000 := by
      have h5 : k * s ≤ 200000 * 100000 := Nat.mul_le_mul (by omega) (by have := HNS.out.2; omega)
      omega
    have hM0 : 0 ≤ M := by omega
    by_cases hlt : k < bg n s
    · have hlti : M < N := by
        have := (HB.out k).2 hlt
        have := HNS.out.1
        omega
      clear hM
      go_wp2
      exact ⟨⟨k + 1, by go_num, by omega, trivial⟩, by simp [intOf]; omega⟩
    · have hlti : ¬ M < N := by
        have h6 : ¬ k * s < n := fun h => hlt ((HB.out k).1 h)
        have := HNS.out.1
        omega
      have hke : k = bg n s := by omega
      clear hM
      subst hke
      go_wp2
      go_ret
      exact ⟨rfl, rfl⟩
/-- What an append amid the reference's Of leaves. -/
theorem OfM.app {w wr wa w4 w5 : World} {g0 g1 rl : Nat} {r v4 : Value} {A : List Nat} {m m2 : Nat} {p : Pn} (h : OfM w wr g0 g1 r (A ++ [m]) p) (hrl : rl = A.length + 1) (ha : Grow wr wa) (hap : Appd wa w4 3 1 r v4 (rl + 1) (numv (toI (A ++ [m])) ++ numv [(m2 : Int)])) (hb : Blk w5 g1 44 (pcells p v4)) (k : But (· = g1) w4 w5) : OfM w w5 g0 g1 v4 ((A ++ [m]) ++ [m2]) p := by
  have hl : (toI (A ++ [m])).length = rl := by rw [toI_len, List.length_append, List.length_singleton, hrl]
  rw [← hl] at hap
  obtain ⟨h5, h6⟩ := (h.own.grow ha).more hap (h.grow.trans ha)
  have hn : ∀ k, v4.ownBlock = some k → k ≠ g0 ∧ k ≠ g1 := fun j hj => by
    rcases hap.at' with e | e
    · exact h.nv j (by rw [← e]; exact hj)
    · rw [e] at hj
      have := Option.some.inj hj
      have := ha.size
      have := h.one.lt
      have := h.zero.lt
      exact ⟨by omega, by omega⟩
  refine ⟨hb, ((h.zero.but ha (fun h => h)).but hap.but (fun e => (h.nv g0 e).1 rfl)).but k h.ne.1, ?_, h6.then k (fun j hj e => by have := h.ne.2.2; omega), h.ne, hn⟩
  rw [show toI ((A ++ [m]) ++ [m2]) = toI (A ++ [m]) ++ [(m2 : Int)] by unfold toI; rw [List.map_append]; rfl]
  exact h5.but k (fun j hj e => (hn j hj).2 e)
set_option maxRecDepth 100000 in
theorem rof_not (w : World) (x y : Int) (h : ¬ (1 ≤ x ∧ x ≤ 4096 ∧ 1 ≤ y ∧ y ≤ 256)) : Calls Tryd.prog 38 #[.int .i64 x, .int .i64 y] w fun e w' => e = .returned (.tuple #[pval Pn.zero noS, .int .i64 1]) ∧ Grow w w' := by
  obtain ⟨g0, hg0⟩ : ∃ g, g = w.heap.size := ⟨_, rfl⟩
  obtain ⟨W0, hW0⟩ : ∃ W0, W0 = w.alloc (.cells (pcells Pn.zero noS).toArray 44) := ⟨_, rfl⟩
  have hT0 : Grow w W0 := by rw [hW0]; exact (But.refl _ w).alloc _
  have hB0 : Blk W0 g0 44 (pcells Pn.zero noS) := by rw [hW0]; exact Blk.new hg0.symm
  have HT0 := Hid.mk' hT0
  have HB0 := Hid.mk' hB0
  have HG := Hid.mk' hg0
  have HGE : Hid (w.heap.size ≤ g0) := Hid.mk' (by omega)
  have HW := Hid.mk' hW0
  clear hg0 hW0 hT0 hB0
  rcases (by omega : x < 1 ∨ (¬ x < 1 ∧ 4096 < x) ∨ (¬ x < 1 ∧ ¬ 4096 < x ∧ y < 1) ∨ (¬ x < 1 ∧ ¬ 4096 < x ∧ ¬ y < 1 ∧ 256 < y)) with h1 | ⟨h1, h2⟩ | ⟨h1, h2, h3⟩ | ⟨h1, h2, h3, h4⟩
  all_goals
    clear h
    go_enter Tryd.func38, Tryd.ntmps38
    go_upto_region 1 with (first
      | (refine wpList_runH rfl (exec_allocF rfl (zPl _)) ?_)
      | fail)
    rw [← HW.out, ← HG.out]
    clear HW HG
    go_upto_region 2 with fail
    go_wp2_with (first
      | (refine wpList_store_at rfl _ _ _ rfl g0 0 (pcells Pn.zero noS) rfl rfl 44 [] (pcells Pn.zero noS) [] (by simpa using HB0.out) rfl rfl iPl (pcells_one _ rfl) ?_; intro w3 hb3 hbut3; rw [List.nil_append, List.append_nil] at hb3)
      | fail)
    refine bodyPost_ret (results_plan_tmp rfl _ _ g0 _ _ _ _ rfl hb3 Tryd.underlying44 rfl iPl rfl) rfl ⟨rfl, ?_⟩
    exact HT0.out.then hbut3 (fun b hb e => by have := HGE.out; omega)
set_option maxRecDepth 100000 in
set_option maxHeartbeats 4000000 in
theorem rof_any (w : World) (n b : Nat) (h1 : 1 ≤ n) (h2 : n ≤ 4096) (h3 : 1 ≤ b) (h4 : b ≤ 256) : Calls Tryd.prog 38 #[.int .i64 (n : Int), .int .i64 (b : Int)] w (OfTo w n b) := by
  obtain ⟨g0, hg0⟩ : ∃ g, g = w.heap.size := ⟨_, rfl⟩
  obtain ⟨W0, hW0⟩ : ∃ W0, W0 = w.alloc (.cells (pcells Pn.zero noS).toArray 44) := ⟨_, rfl⟩
  have hT0 : Grow w W0 := by rw [hW0]; exact (But.refl _ w).alloc _
  have hB0 : Blk W0 g0 44 (pcells Pn.zero noS) := by rw [hW0]; exact Blk.new hg0.symm
  obtain ⟨g1, hg1⟩ : ∃ g, g = W0.heap.size := ⟨_, rfl⟩
  obtain ⟨W1, hW1⟩ : ∃ W1, W1 = W0.alloc (.cells (pcells Pn.zero noS).toArray 44) := ⟨_, rfl⟩
  have hT1 : Grow w W1 := by rw [hW1]; exact hT0.alloc _
  have hB1 : Blk W1 g1 44 (pcells Pn.zero noS) := by rw [hW1]; exact Blk.new hg1.symm
  have hB01 : Blk W1 g0 44 (pcells Pn.zero noS) := by rw [hW1]; exact hB0.but ((But.refl (fun _ => False) W0).alloc _) (fun h => h)
  have HNE : Hid (g0 ≠ g1 ∧ w.heap.size ≤ g0 ∧ w.heap.size ≤ g1) := by
    have := hB0.lt
    have := hT0.size
    exact ⟨by omega, by omega, by omega⟩
  have HT1 := Hid.mk' hT1
  have HB1 := Hid.mk' hB1
  have HB01 := Hid.mk' hB01
  have HG0 := Hid.mk' hg0
  have HG1 := Hid.mk' hg1
  have HW0 := Hid.mk' hW0
  have HW1 := Hid.mk' hW1
  obtain ⟨c, hc⟩ : ∃ c, c = bg n 16 := ⟨_, rfl⟩
  have hc1 : 1 ≤ c := by rw [hc]; unfold bg; omega
  have hc2 : c ≤ 256 := by rw [hc]; unfold bg; omega
  obtain ⟨L, hL⟩ : ∃ L, L = lvs c := ⟨_, rfl⟩
  have hLL := lvs_le hc1 hc2
  rw [← hL] at hLL
  obtain ⟨nd, hnd⟩ : ∃ nd, nd = L.sum := ⟨_, rfl⟩
  obtain ⟨q, hq⟩ : ∃ q : Nat, q = 12 + 4 * b := ⟨_, rfl⟩
  obtain ⟨hs, hhs⟩ : ∃ hs, hs = bg q 256 := ⟨_, rfl⟩
  have hsb : hs ≤ 5 := by rw [hhs]; unfold bg; omega
  obtain ⟨hd, hhd⟩ : ∃ hd, hd = n + c + nd := ⟨_, rfl⟩
  have HPL : Hid (plan n b = ⟨n, b, c, toI L, nd, hd, hs, (hd + hs : Nat), (hd + hs + b : Nat), (hd + hs + b + b : Nat)⟩) := by
    subst hhd hhs hq hnd hL hc
    rfl
  have HBG1 := Hid.mk' (fun w => rbegun_any w n 16 (by omega) (by decide) (by decide))
  have HBG2 := Hid.mk' (fun w => rbegun_any w q 256 (by omega) (by decide) (by decide))
  have HBG3 := Hid.mk' (fun w => rbegun_any w c 8 (by omega) (by decide) (by decide))
  obtain ⟨m0, hm0⟩ : ∃ m0, m0 = bg c 8 := ⟨_, rfl⟩
  rw [← hm0] at HBG3
  have HLE : Hid (L = lvN 3 m0 ∧ 1 ≤ m0 ∧ m0 ≤ 8 ^ 3) := Hid.mk' ⟨by rw [hL, hm0]; rfl, by rw [hm0]; exact bg_pos hc1, by rw [hm0]; exact bg8 (k := 3) (by omega)⟩
  rw [← hc] at HBG1
  rw [← hhs] at HBG2
  have HLL := Hid.mk' hLL
  have HND := Hid.mk' hnd
  have en : (n : Int) ≤ 4096 := by omega
  have en1 : (1 : Int) ≤ (n : Int) := by omega
  have eb : (b : Int) ≤ 256 := by omega
  have eb1 : (1 : Int) ≤ (b : Int) := by omega
  have n1 : ¬ (n : Int) < 1 := by omega
  have n2 : ¬ (4096 : Int) < (n : Int) := by omega
  have b1 : ¬ (b : Int) < 1 := by omega
  have b2 : ¬ (256 : Int) < (b : Int) := by omega
  have ec : (c : Int) ≤ 256 := by omega
  have hds : hd ≤ 4389 := by have := hLL.2.2.1; omega
  have HQ : Hid ((12 : Int) + 4 * (b : Int) = (q : Int)) := Hid.mk' (by omega)
  have HSM : Hid ((n : Int) + (c : Int) + (nd : Int) = (hd : Int) ∧ (hd : Int) + (hs : Int) = ((hd + hs : Nat) : Int) ∧ ((hd + hs : Nat) : Int) + (b : Int) = ((hd + hs + b : Nat) : Int) ∧ ((hd + hs + b : Nat) : Int) + (b : Int) = ((hd + hs + b + b : Nat) : Int)) := ⟨by omega, by omega, by omega, by omega⟩
  have HBD : Hid ((nd : Int) ≤ 37 ∧ (hd : Int) ≤ 4389 ∧ (hs : Int) ≤ 5) := ⟨by have := hLL.2.2.1; omega, by omega, by omega⟩
  clear h1 h2 h3 h4 hg0 hg1 hW0 hW1 hT0 hT1 hB0 hB1 hB01 hc hc1 hc2 hL hLL hnd hq hhs hsb hhd hds hm0
  go_enter Tryd.func38, Tryd.ntmps38
  go_upto_region 1 with (first
    | (refine wpList_runH rfl (exec_allocF rfl (zPl _)) ?_)
    | fail)
  rw [← HW0.out, ← HG0.out]
  clear HW0 HG0
  go_upto_region 4 with (first
    | (refine wpList_runH rfl (exec_allocF rfl (zPl _)) ?_; rw [← HW1.out, ← HG1.out])
    | fail)
  clear HW1 HG1
  have HX1 := HB1
  have HZ1 := HB01
  clear HB1 HB01
  go_upto_region 5 with (first
    | (refine wpList_store1 (g := g1) (i := 0) (v := .int .i64 (n : Int)) rfl iIn rfl rfl rfl rfl HX1.out (show 0 < 10 by decide) ?_; intro w2 hb hbut)
    | fail)
  have HX2 : Hid (Blk w2 g1 44 (pcells ⟨n, 0, 0, [], 0, 0, 0, 0, 0, 0⟩ noS)) := hb
  have HZ2 := Hid.mk' (HZ1.out.but hbut HNE.out.1)
  have HT2 : Hid (Grow w w2) := HT1.out.then hbut (fun j hj e => by have := HNE.out.2.2; omega)
  clear hb hbut HX1 HZ1 HT1
  go_upto_region 6 with (first
    | (refine wpList_store1 (g := g1) (i := 1) (v := .int .i64 (b : Int)) rfl iIn rfl rfl rfl rfl HX2.out (show 1 < 10 by decide) ?_; intro w3 hb hbut)
    | fail)
  have HX3 : Hid (Blk w3 g1 44 (pcells ⟨n, b, 0, [], 0, 0, 0, 0, 0, 0⟩ noS)) := hb
  have HZ3 := Hid.mk' (HZ2.out.but hbut HNE.out.1)
  have HT3 : Hid (Grow w w3) := HT2.out.then hbut (fun j hj e => by have := HNE.out.2.2; omega)
  clear hb hbut HX2 HZ2 HT2
  go_wp2_with fail
  refine Calls.mono (HBG1.out _) ?_
  rintro e w' ⟨rfl, hw⟩
  have h3 := hw.symm
  subst h3
  clear hw HBG1
  go_upto_region 7 with (first
    | (refine wpList_store1 (g := g1) (i := 2) (v := .int .i64 (c : Int)) rfl iIn rfl rfl rfl rfl HX3.out (show 2 < 10 by decide) ?_; intro w4 hb hbut)
    | fail)
  have HX4 : Hid (Blk w4 g1 44 (pcells ⟨n, b, c, [], 0, 0, 0, 0, 0, 0⟩ noS)) := hb
  have HZ4 := Hid.mk' (HZ3.out.but hbut HNE.out.1)
  have HT4 : Hid (Grow w w4) := HT3.out.then hbut (fun j hj e => by have := HNE.out.2.2; omega)
  clear hb hbut HX3 HZ3 HT3
  have c2 : w4.cell? ⟨g1, 2, none⟩ = some (.int .i64 (c : Int)) := HX4.out.cell 2
  go_wp2_with fail
  refine Calls.mono (HBG3.out _) ?_
  rintro e w' ⟨rfl, hw⟩
  have h3 := hw.symm
  subst h3
  clear hw HBG3 c2
  obtain ⟨w5, hw5⟩ : ∃ w5, w5 = w4.alloc (.cells #[.int .i64 (m0 : Int)] 3) := ⟨_, rfl⟩
  have HG5 : Hid (Grow w4 w5) := Hid.mk' (by rw [hw5]; exact (But.refl _ w4).alloc _)
  have HO5 : Hid (Own w w5 (.slice (some ⟨w4.heap.size, 0, none⟩) 1 1) (toI [m0])) := Hid.mk' (by
    rw [hw5]
    exact ⟨(RowOf.lit (Fr := fun _ => True) (n := 1) (Blk.new (L := numv [(m0 : Int)]) rfl) rfl (by decide) trivial).own, fun k hk => by
      have h9 : some w4.heap.size = some k := hk
      have := Option.some.inj h9
      have := HT4.out.size
      omega⟩)
  have HN5 : Hid (∀ k, (Value.slice (some ⟨w4.heap.size, 0, none⟩) 1 1).ownBlock = some k → k ≠ g0 ∧ k ≠ g1) := fun k hk => by
    have h9 : some w4.heap.size = some k := hk
    have := Option.some.inj h9
    have := HX4.out.lt
    have := HZ4.out.lt
    exact ⟨by omega, by omega⟩
  have HX5 := Hid.mk' (HX4.out.but HG5.out (fun h => h))
  have HZ5 := Hid.mk' (HZ4.out.but HG5.out (fun h => h))
  have HT5 := Hid.mk' (HT4.out.trans HG5.out)
  have HW5 := Hid.mk' hw5
  clear hw5
  go_upto_region 9 with (first
    | (refine wpList_runH rfl (exec_row1 (v := .int .i64 (m0 : Int)) Tryd.underlying42 infNum (by decide) (by decide) rfl rfl rfl) ?_; rw [show w4.alloc (.cells (Value.int .i64 (m0 : Int)).cells 3) = w5 from HW5.out.symm])
    | (refine wpList_store1 (g := g1) (i := 3) (v := .slice (some ⟨w4.heap.size, 0, none⟩) 1 1) rfl iSl rfl rfl rfl rfl HX5.out (show 3 < 10 by decide) ?_; intro w6 hb hbut)
    | fail)
  obtain ⟨r, hr⟩ : ∃ r : Value, r = .slice (some ⟨w4.heap.size, 0, none⟩) 1 1 := ⟨_, rfl⟩
  have HI6 : Hid (OfM w w6 g0 g1 (.slice (some ⟨w4.heap.size, 0, none⟩) 1 1) [m0] ⟨n, b, c, [], 0, 0, 0, 0, 0, 0⟩) :=
    ⟨hb, HZ5.out.but hbut HNE.out.1, HO5.out.but hbut (fun j hj e => (HN5.out j hj).2 e), HT5.out.then hbut (fun j hj e => by have := HNE.out.2.2; omega), HNE.out, HN5.out⟩
  clear hb hbut hr HX4 HZ4 HT4 HX5 HZ5 HT5 HO5 HW5 HG5
  go_wp2_with (first
    | (refine wpList_store1 (g := g1) (i := 4) (v := .int .i64 (m0 : Int)) rfl iIn rfl rfl rfl rfl HI6.out.one (show 4 < 10 by decide) ?_; intro w7 hb hbut)
    | fail)
  have HI7 := Hid.mk' (HI6.out.put (p' := ⟨n, b, c, [], ([m0].sum : Nat), 0, 0, 0, 0, 0⟩) (by rw [show [m0].sum = m0 by simp]; exact hb) hbut)
  clear hb hbut HI6
  refine act_down ?_
  intro K hK
  go_simp
  refine hK _ ?_
  clear hK K
  go_loopw [7] (fun mv wr => ∃ (m k : Nat) (A : List Nat) (r : Value), mv = .int .i64 (m : Int) ∧ k ≤ 3 ∧ 1 ≤ m ∧ m ≤ 8 ^ k ∧ A.length ≤ 3 - k ∧ L = A ++ lvN k m ∧ OfM w wr g0 g1 r (A ++ [m]) ⟨n, b, c, [], ((A ++ [m]).sum : Nat), 0, 0, 0, 0, 0⟩) (fun mv _ => (intOf mv).toNat)
  case atStart => exact ⟨m0, 3, [], _, rfl, by decide, HLE.out.2.1, HLE.out.2.2, by decide, HLE.out.1, HI7.out⟩
  case round =>
    clear HI7 HLE
    obtain ⟨m, k, A, r, rfl, hk, hm1, hm8, hA, hLL2, hI⟩ := hrel
    have HI := Hid.mk' hI
    have HM := Hid.mk' (And.intro hm1 hm8)
    have HL := Hid.mk' hLL2
    have HK := Hid.mk' hk
    have HA := Hid.mk' hA
    have hmu : m ≤ 512 := Nat.le_trans hm8 (show 8 ^ k ≤ 8 ^ 3 from Nat.pow_le_pow_right (by decide) hk)
    have hmi : (m : Int) ≤ 512 := by omega
    obtain ⟨ra, rc, hre⟩ := hI.own.sl
    rw [toI_len, List.length_append, List.length_singleton] at hre
    obtain ⟨rl, hrl⟩ : ∃ rl, rl = A.length + 1 := ⟨_, rfl⟩
    rw [← hrl] at hre
    have HRL := Hid.mk' hrl
    clear hI hm8 hk hA hLL2 hrl
    subst hre
    by_cases hgt : m = 1
    · have hgb : ((m : Int) != 1) = false := by rw [hgt]; rfl
      have hLE : L = A ++ [m] := by rw [HL.out, lvN_one (by omega)]
      have hI := HI.out
      rw [← hLE, ← HND.out] at hI
      have HI := Hid.mk' hI
      have hlt : True := trivial
      have hie : True := trivial
      have hil : True := trivial
      clear hgt hLE hmu
      have d0 : wr.cell? ⟨g1, 0, none⟩ = some (.int .i64 (n : Int)) := hI.one.cell 0
      have d2 : wr.cell? ⟨g1, 2, none⟩ = some (.int .i64 (c : Int)) := hI.one.cell 2
      have d4 : wr.cell? ⟨g1, 4, none⟩ = some (.int .i64 (nd : Int)) := hI.one.cell 4
      obtain ⟨q1, q2, q3, q4⟩ := HSM.out
      obtain ⟨q5, q6, q7⟩ := HBD.out
      obtain ⟨s7, hs7⟩ : ∃ s : Int, s = ((hd + hs : Nat) : Int) := ⟨_, rfl⟩
      obtain ⟨s8, hs8⟩ : ∃ s : Int, s = ((hd + hs + b : Nat) : Int) := ⟨_, rfl⟩
      obtain ⟨s9, hs9⟩ : ∃ s : Int, s = ((hd + hs + b + b : Nat) : Int) := ⟨_, rfl⟩
      rw [← hs7] at q2 q3
      rw [← hs8] at q3 q4
      rw [← hs9] at q4
      have HPE : Hid (plan n b = ⟨n, b, c, toI L, nd, hd, hs, s7, s8, s9⟩) := by rw [hs7, hs8, hs9]; exact HPL.out
      have hQ := HQ.out
      have q8 : s7 ≤ 5000 := by omega
      have q9 : s8 ≤ 5500 := by omega
      clear hI hie hil hs7 hs8 hs9 HSM HBD HPL HQ hlt
      go_upto_region 15 with (first
        | (refine wpList_store1 (g := g1) (i := 5) (v := .int .i64 (hd : Int)) rfl iIn rfl rfl rfl rfl HI.out.one (show 5 < 10 by decide) ?_; intro w6 hb6 hbut6)
        | fail)
      have H6 := Hid.mk' (HI.out.put (p' := ⟨n, b, c, [], nd, hd, 0, 0, 0, 0⟩) hb6 hbut6)
      clear hb6 hbut6 d0 d2 d4 HI
      go_wp2_with fail
      refine Calls.mono (HBG2.out _) ?_
      rintro e w' ⟨rfl, hw⟩
      have h3 := hw.symm
      subst h3
      clear hw HBG2
      go_upto_region 16 with (first
        | (refine wpList_store1 (g := g1) (i := 6) (v := .int .i64 (hs : Int)) rfl iIn rfl rfl rfl rfl H6.out.one (show 6 < 10 by decide) ?_; intro w7 hb7 hbut7)
        | fail)
      have H7 := Hid.mk' (H6.out.put (p' := ⟨n, b, c, [], nd, hd, hs, 0, 0, 0⟩) hb7 hbut7)
      have d5 : w7.cell? ⟨g1, 5, none⟩ = some (.int .i64 (hd : Int)) := H7.out.one.cell 5
      have d6 : w7.cell? ⟨g1, 6, none⟩ = some (.int .i64 (hs : Int)) := H7.out.one.cell 6
      clear hb7 hbut7 H6
      go_upto_region 17 with (first
        | (refine wpList_store1 (g := g1) (i := 7) (v := .int .i64 s7) rfl iIn rfl rfl rfl rfl H7.out.one (show 7 < 10 by decide) ?_; intro w8 hb8 hbut8)
        | fail)
      have H8 := Hid.mk' (H7.out.put (p' := ⟨n, b, c, [], nd, hd, hs, s7, 0, 0⟩) hb8 hbut8)
      have d7 : w8.cell? ⟨g1, 7, none⟩ = some (.int .i64 s7) := H8.out.one.cell 7
      clear hb8 hbut8 H7 d5 d6
      go_upto_region 18 with (first
        | (refine wpList_store1 (g := g1) (i := 8) (v := .int .i64 s8) rfl iIn rfl rfl rfl rfl H8.out.one (show 8 < 10 by decide) ?_; intro w9 hb9 hbut9)
        | fail)
      have H9 := Hid.mk' (H8.out.put (p' := ⟨n, b, c, [], nd, hd, hs, s7, s8, 0⟩) hb9 hbut9)
      have d8 : w9.cell? ⟨g1, 8, none⟩ = some (.int .i64 s8) := H9.out.one.cell 8
      clear hb9 hbut9 H8 d7
      go_upto_region 19 with (first
        | (refine wpList_store1 (g := g1) (i := 9) (v := .int .i64 s9) rfl iIn rfl rfl rfl rfl H9.out.one (show 9 < 10 by decide) ?_; intro w10 hb10 hbut10)
        | fail)
      have H10 := Hid.mk' (H9.out.put (p' := ⟨n, b, c, [], nd, hd, hs, s7, s8, s9⟩) hb10 hbut10)
      have HCW : Hid (∀ j u, (pcells ⟨n, b, c, [], nd, hd, hs, s7, s8, s9⟩ (.slice ra rl rc))[j]? = some u → w10.cell? ((⟨g1, 0, none⟩ : Addr).add j) = some u) := fun j u hj => by
        rw [addr_add, Nat.zero_add, H10.out.one.cell j]; exact hj
      clear hb10 hbut10 H9 d8
      go_wp2_with (first
        | (refine wpList_load_cells rfl _ _ rfl ⟨g1, 0, none⟩ rfl (pcells ⟨n, b, c, [], nd, hd, hs, s7, s8, s9⟩ (.slice ra rl rc)) _ HCW.out Tryd.underlying44 rfl iPl ?_)
        | (refine wpList_store_at rfl _ _ _ rfl g0 0 (pcells ⟨n, b, c, [], nd, hd, hs, s7, s8, s9⟩ (.slice ra rl rc)) rfl rfl 44 [] (pcells Pn.zero noS) [] (by simpa using H10.out.zero) rfl rfl iPl (pcells_one _ rfl) ?_; intro w11 hb11 hbut11; rw [List.nil_append, List.append_nil] at hb11)
        | fail)
      obtain ⟨ho, hg⟩ := H10.out.last hbut11
      refine bodyPost_ret (results_plan_tmp rfl _ _ g0 _ _ _ _ rfl hb11 Tryd.underlying44 rfl iPl rfl) rfl ⟨.slice ra rl rc, ?_, ?_, hg⟩
      · rw [HPE.out]; rfl
      · rw [HPE.out]; exact ho
    · have hgb : ((m : Int) != 1) = true := by
        have : (m : Int) ≠ 1 := by omega
        simpa using this
      obtain ⟨k, rfl⟩ : ∃ j, k = j + 1 := by
        cases k with
        | zero => have := HM.out.2; simp at this; omega
        | succ j => exact ⟨j, rfl⟩
      have HB := Hid.mk' (rbegun_any wr m 8 (by omega) (by decide) (by decide))
      obtain ⟨m2, hm2⟩ : ∃ m2, m2 = bg m 8 := ⟨_, rfl⟩
      rw [← hm2] at HB
      have HM2 : Hid (1 ≤ m2 ∧ m2 ≤ 8 ^ k ∧ m2 < m) := Hid.mk' (by rw [hm2]; exact ⟨bg_pos hm1, bg8 HM.out.2, by unfold bg; omega⟩)
      have HL2 : Hid (L = (A ++ [m]) ++ lvN k m2) := Hid.mk' (by rw [HL.out, lvN_more (by omega), List.append_assoc, hm2]; rfl)
      obtain ⟨sm, hsm⟩ : ∃ sm, sm = (A ++ [m]).sum := ⟨_, rfl⟩
      have hs37 : sm + m2 ≤ 37 := by
        have h5 := HLL.out.2.2.1
        have h6 : m2 ≤ (lvN k m2).sum := by
          cases k with
          | zero => show m2 ≤ [m2].sum; simp
          | succ j =>
            unfold lvN
            split
            · simp
            · rw [List.sum_cons]; omega
        rw [HL2.out, List.sum_append, ← hsm] at h5
        omega
      have esm : (sm : Int) + (m2 : Int) = ((sm + m2 : Nat) : Int) := by omega
      have hsu1 : ((sm + m2 : Nat) : Int) ≤ 37 := by omega
      have HSS : Hid (((A ++ [m]) ++ [m2]).sum = sm + m2) := Hid.mk' (by rw [List.sum_append, ← hsm]; simp)
      rw [← hsm] at HI
      obtain ⟨su, hsu2⟩ : ∃ su : Int, su = ((sm + m2 : Nat) : Int) := ⟨_, rfl⟩
      rw [← hsu2] at esm hsu1
      have HSU := Hid.mk' hsu2
      have c3 : wr.cell? ⟨g1, 3, none⟩ = some (.slice ra rl rc) := HI.out.one.cell 3
      have HAL : Hid (Grow wr (wr.alloc (.cells #[.int .i64 (m2 : Int)] 3))) := (But.refl _ wr).alloc _
      have HBL : Hid (Blk (wr.alloc (.cells #[.int .i64 (m2 : Int)] 3)) wr.heap.size 3 (numv [(m2 : Int)])) := Blk.new (L := numv [(m2 : Int)]) rfl
      have HRW : Hid (wr.ownsRow 0 3 1 (.slice ra rl rc) rl (numv (toI (A ++ [m])))) := Hid.mk' (by
        have h := HI.out.own.row
        rw [toI_len, List.length_append, List.length_singleton, ← HRL.out] at h
        exact h)
      have hm2i : (m2 : Int) ≤ 512 := by have := HM2.out.2.2; omega
      clear hm2 hm1 hmu HM HL hsm hs37 hsu2 hgt
      go_wp2_with fail
      refine Calls.mono HB.out ?_
      rintro e w' ⟨rfl, hw⟩
      have h3 := hw.symm
      subst h3
      clear hw HB
      go_upto_region 13 with (first
        | (refine wpList_runH rfl (exec_row1 (v := .int .i64 (m2 : Int)) Tryd.underlying42 infNum (by decide) (by decide) rfl rfl rfl) ?_)
        | (refine wpList_someH rfl (exec_append (v := .slice ra rl rc) (n := rl) (xs := numv (toI (A ++ [m]))) (news := numv [(m2 : Int)]) Tryd.underlying42 infNum rfl (by decide) rfl rfl (ownsRow_grow HRW.out HAL.out) rfl rfl (fun j u hj => HBL.out.cells0 j u hj) (fun u hu => by rw [show u = .int .i64 (m2 : Int) by simpa [numv] using hu]; rfl) (by have := HRL.out; have := HA.out; omega) (by decide)) ?_; intro v4 w4 hap
           obtain ⟨va, vc, e4⟩ := own_sl hap.own
           subst e4
           have hb4 : Blk w4 g1 44 (pcells ⟨n, b, c, [], sm, 0, 0, 0, 0, 0⟩ (.slice ra rl rc)) := (HI.out.one.but HAL.out (fun h => h)).but hap.but (fun e => (HI.out.nv g1 e).2 rfl))
        | (refine wpList_store1 (g := g1) (i := 3) rfl iSl rfl rfl rfl rfl hb4 (show 3 < 10 by decide) ?_; intro w5 hb5 hbut5)
        | fail)
      have HI5 := Hid.mk' (HI.out.app HRL.out HAL.out hap hb5 hbut5)
      have c4 : w5.cell? ⟨g1, 4, none⟩ = some (.int .i64 (sm : Int)) := HI5.out.one.cell 4
      clear hap hb4 hb5 hbut5 c3 HAL HBL HRW HI
      go_wp2_with (first
        | (refine wpList_store1 (g := g1) (i := 4) (v := .int .i64 su) rfl iIn rfl rfl rfl rfl HI5.out.one (show 4 < 10 by decide) ?_; intro w6 hb6 hbut6)
        | fail)
      refine ⟨⟨.int .i64 (m2 : Int), _, _, _, _, _, _, _, _, _, _, _, _, _, _, _, ⟨m2, k, A ++ [m], _, rfl, by have := HK.out; omega, HM2.out.1, HM2.out.2.1, by rw [List.length_append, List.length_singleton]; have := HA.out; have := HK.out; omega, HL2.out, HI5.out.put (p' := ⟨n, b, c, [], (((A ++ [m]) ++ [m2]).sum : Nat), 0, 0, 0, 0, 0⟩) (by rw [HSS.out, ← HSU.out]; exact hb6) hbut6⟩, rfl⟩, ?_⟩
      show (m2 : Int).toNat < (m : Int).toNat
      have := HM2.out.2.2
      omega
end Go.Proofs.YtbidllclcedjbaaDoor
/- tree's laws: made. -/
namespace Go.Proofs.YtbidllclcedjbaaDoor
open Go.RowKit

theorem Nb.mono {base base' : Nat} {w : World} {v : Value} {n : Nat} {G : Nat → Nat} {T : Nat → List Nat} (h : Nb base w v n G T) (hb : base' ≤ base) : Nb base' w v n G T :=
  ⟨h.ex, fun k hk => ⟨Nat.le_trans hb (h.rnew k hk).1, (h.rnew k hk).2⟩, fun i hi => Nat.le_trans hb (h.gnew i hi), h.inj⟩
/-- What made leaves: a plan, and a row of blocks. -/
structure MdTo (w : World) (n : Nat) (e : Ending) (w' : World) : Prop where
  ex : ∃ pv v G T, e = .returned (.tuple #[pval (plan n 4) pv, v]) ∧ Own w w' pv (plan n 4).levels ∧ Nb w.heap.size w' v (bg n 16) G T
  grow : Grow w w'
theorem wrap8 (k : Nat) : IntKind.u8.wrap (k : Int) = ((k % 256 : Nat) : Int) := by show (k : Int) % 256 = _; omega
theorem xorb (a b : Nat) (ha : a < 256) (hb : b < 256) : a ^^^ b < 256 := Nat.xor_lt_two_pow (n := 8) ha hb
set_option maxRecDepth 100000 in
set_option maxHeartbeats 8000000 in
theorem made_tr {w : World} {x : Int} {fv : Value} {fill : List Nat} (hf : Bs w fv fill) (hfl : fill.length ≤ 140737488355328) :
    Calls Tryd.prog 20 #[.int .i64 x, fv] w (MdTo w (1 + (x % 300).toNat)) := by
  obtain ⟨n, hn⟩ : ∃ n, n = 1 + (x % 300).toNat := ⟨_, rfl⟩
  rw [← hn]
  have hn1 : 1 ≤ n := by omega
  have hn2 : n ≤ 300 := by omega
  have hc1 : bg n 16 ≤ 19 := by unfold bg; omega
  obtain ⟨g0, hg0⟩ : ∃ g, g = w.heap.size := ⟨_, rfl⟩
  obtain ⟨W, hW⟩ : ∃ W, W = w.alloc (.cells (pcells Pn.zero noS).toArray 44) := ⟨_, rfl⟩
  have hT0 : Grow w W := by rw [hW]; exact (But.refl _ w).alloc _
  have HB0 : Hid (Blk W g0 44 (pcells Pn.zero noS)) := by show Blk _ _ _ _; rw [hW]; exact Blk.new hg0.symm
  have hpk := pick_any x 300 W (by decide) (by decide)
  obtain ⟨X, hX⟩ : ∃ X, X = x % 300 := ⟨_, rfl⟩
  rw [← hX] at hpk hn
  have HPK := Hid.mk' hpk
  have hX0 : 0 ≤ X := by omega
  have hX1 : X < 300 := by omega
  have hXn : 1 + X = (n : Int) := by omega
  have HOF : Hid (Calls Tryd.prog 38 #[.int .i64 (n : Int), .int .i64 4] W (OfTo W n 4)) := rof_any W n 4 hn1 (by omega) (by decide) (by decide)
  obtain ⟨P, hP⟩ : ∃ P, P = plan n 4 := ⟨_, rfl⟩
  unfold OfTo at HOF
  rw [← hP] at HOF
  have HP := Hid.mk' hP
  have hpc : P.counters = ((bg n 16 : Nat) : Int) := by rw [hP]; rfl
  obtain ⟨c, hc⟩ : ∃ c, c = bg n 16 := ⟨_, rfl⟩
  rw [← hc] at hpc hc1
  have HC := Hid.mk' hc
  have HPC := Hid.mk' hpc
  have HW := Hid.mk' hW
  have HG0 := Hid.mk' hg0
  have HT0 := Hid.mk' hT0
  have HF := Hid.mk' hf
  obtain ⟨fa, fn, fc, hfe⟩ : ∃ fa fn fc, fv = .slice fa fn fc := hf.sl
  have hfn : fn = fill.length := by
    obtain ⟨a, c, e, _⟩ := hf.gen
    rw [hfe] at e
    simp only [Value.slice.injEq] at e
    exact e.2.1
  subst hfe
  have HFN := Hid.mk' hfn
  have HNN : Hid (1 ≤ n ∧ n ≤ 300) := ⟨hn1, hn2⟩
  obtain ⟨i0, hi, hz0, hz1, hz2⟩ := info_parts u8info
  have hfnl : fn ≤ 140737488355328 := by omega
  clear hn hg0 hW hT0 hpk hX hP hpc hc hf hfl hfn hn1 hn2
  go_enter Tryd.func20, Tryd.ntmps20
  go_upto_region 1 with (first
    | (refine wpList_runH rfl (exec_allocF rfl (zPl _)) ?_)
    | fail)
  rw [← HW.out, ← HG0.out]
  clear HW
  go_wp2_with fail
  refine Calls.mono HPK.out ?_
  rintro e w' ⟨rfl, hw⟩
  have h3 := hw.symm
  subst h3
  clear hw HPK
  go_wp2_with fail
  refine Calls.mono HOF.out ?_
  rintro e w1 ⟨v, rfl, ho, hg⟩
  obtain ⟨va, vc, hve⟩ := ho.sl
  generalize P.levels.length = ln at hve
  subst hve
  have HO := Hid.mk' ho
  have HG := Hid.mk' hg
  clear hg ho HOF
  go_upto_region 2 with (first
    | (refine wpList_runH rfl (exec_allocF rfl (zPl _)) ?_)
    | (refine wpList_store_at rfl _ _ _ rfl w1.heap.size 0 (pcells P (.slice va ln vc)) rfl rfl 44 [] (pcells Pn.zero noS) [] (var_new w1) rfl rfl iPl (pcells_one _ rfl) ?_; intro w2 hb2 hbut2; rw [List.nil_append, List.append_nil] at hb2)
    | fail)
  obtain ⟨g, hgg⟩ : ∃ g, g = w1.heap.size := ⟨_, rfl⟩
  have hg2 := var_grow hbut2
  rw [← hgg] at hb2 ⊢
  have HB2 := Hid.mk' hb2
  have HO2 := Hid.mk' (HO.out.grow hg2)
  have HG2 := Hid.mk' (HG.out.trans hg2)
  have HB02 := Hid.mk' (HB0.out.but HG2.out (fun h => h))
  have H0 : Hid (Nb w2.heap.size w2 (.slice none 0 0) 0 (fun _ => 0) (fun _ => [])) := Nb.nil _ _ _ _
  clear hgg hb2 hbut2 hg2 HO HG
  go_upto_region 4 with fail
  go_loopw [8, 9] (fun xv iv wr => ∃ (k : Nat) (r : Value), r = xv ∧ k ≤ c ∧ iv = .int .i64 k ∧ ∃ G T, Nb w2.heap.size wr r k G T ∧ Grow w2 wr) (fun _ iv _ => c - (intOf iv).toNat)
  case atStart => exact ⟨0, _, rfl, Nat.zero_le _, rfl, _, _, H0.out, But.refl _ _⟩
  case round =>
    obtain ⟨k, r, hr, hk, rfl, G, T, hnb, hgr⟩ := hrel
    subst hr
    have HNB := Hid.mk' hnb
    have HGR := Hid.mk' hgr
    have cc : wr.cell? ⟨g, 2, none⟩ = some (.int .i64 (c : Int)) := by
      rw [← HPC.out]; exact (HB2.out.but hgr (fun h => h)).cell 2
    clear H0
    by_cases hlt : k < c
    · obtain ⟨ra, rc, hre⟩ := hnb.len
      subst hre
      clear hnb hgr
      go_upto_region 8 with (first
        | (at_make; refine wpList_make_full _ rfl _ _ 22 rfl wr.heap.size 5 i0 (.int .u8 0) 1 Tryd.underlying22 hi hz0 hz1 .i64 .i64 _ _ 256 rfl rfl (by go_num) (by go_num) (by rw [hz2]; omega) (by unfold maxLen; omega) (Nat.le_refl _) ?_; intro w3 hown hgrow)
        | fail)
      obtain ⟨gb, hgb⟩ : ∃ gb, gb = wr.heap.size := ⟨_, rfl⟩
      have hT3 : Grow wr w3 := (But.refl _ _).grown hgrow (by simp)
      have hb3 : Blk w3 gb 5 (u8s z256) := by
        have := own_block hown
        rw [made_zero] at this
        rw [hgb]
        exact this
      rw [← hgb]
      have HGB := Hid.mk' hgb
      have HT3 := Hid.mk' hT3
      have HB3 := Hid.mk' hb3
      have HF3 : Hid (∀ w', But (· = gb) w3 w' → Bs w' (.slice fa fn fc) fill) := fun w' kk => by
        have h1 := HF.out.but (((HT0.out.trans HG2.out).trans HGR.out).trans hT3) (fun _ _ _ h => h)
        refine HF.out.but ((((HT0.out.trans HG2.out).trans HGR.out).trans hT3).then kk (fun i hi e => ?_)) (fun _ _ _ h => h)
        have q1 := ((HT0.out.trans HG2.out).trans HGR.out).size
        omega
      clear hT3 hb3 hown hgrow hgb cc
      obtain ⟨wo, hwo⟩ : ∃ wo, wo = wr := ⟨_, rfl⟩
      subst hwo
      go_loopw [11] (fun jv wr => ∃ (j : Nat) (zs : List Nat), j ≤ 256 ∧ jv = .int .i64 j ∧ zs.length = 256 ∧ (∀ z ∈ zs, z < 256) ∧ Blk wr gb 5 (u8s zs) ∧ But (· = gb) w3 wr) (fun jv _ => 256 - (intOf jv).toNat)
      case atStart => exact ⟨0, z256, by omega, rfl, z256_len, z256_lt, HB3.out, But.refl _ _⟩
      case round =>
        obtain ⟨j, zs, hj, rfl, hzl, hzt, hbz, hbt⟩ := hrel
        have HZL := Hid.mk' hzl
        have HZT := Hid.mk' hzt
        have HBZ := Hid.mk' hbz
        have HBT := Hid.mk' hbt
        by_cases hj2 : j < fn ∧ j < 256
        · obtain ⟨hj3, hj4⟩ := hj2
          have hff := HF3.out wr hbt
          obtain ⟨hlt8, -, ⟨h0, -⟩ | ⟨-, fb, fo, fcap, hfe, -, hfb, hfc⟩⟩ := hff
          · have := HFN.out; rw [h0] at this; simp at this; omega
          · simp only [Value.slice.injEq] at hfe
            obtain ⟨rfl, -, rfl⟩ := hfe
            have cf := hfc j (by rw [← HFN.out]; exact hj3)
            obtain ⟨a, ha⟩ : ∃ a, a = fill.getD j 0 := ⟨_, rfl⟩
            have ha8 : a < 256 := by rw [ha]; exact hlt8 _ (getD_mem _ _ (by rw [← HFN.out]; exact hj3))
            rw [← ha] at cf
            have hk8 := wrap8 k
            obtain ⟨q, hq⟩ : ∃ q, q = k % 256 := ⟨_, rfl⟩
            rw [← hq] at hk8
            have hq8 : q < 256 := by omega
            have hxy : bits .xor .u8 (a : Int) (q : Int) = ((a ^^^ q : Nat) : Int) := u8_xor_nat a q ha8 hq8
            have hz8 := xorb a q ha8 hq8
            obtain ⟨y, hy⟩ : ∃ y, y = a ^^^ q := ⟨_, rfl⟩
            rw [← hy] at hxy hz8
            have cz : wr.cell? ⟨gb, j, none⟩ = some (.int .u8 (zs.getD j 0 : Nat)) := by rw [hbz.cell, u8s_get _ _ (by omega)]
            have fz := hbz.free j
            have hkq : (k : Int) % 256 = (q : Int) := by omega
            have HZ8 := Hid.mk' hz8
            clear ha hy hfc hlt8 hfb hbz hbt hzl hzt hq
            go_wp2
            refine ⟨⟨j + 1, zs.set j y, by omega, by go_num, by rw [List.length_set]; exact HZL.out, fun z hz => ?_, ?_, ?_⟩, by simp [intOf]; omega⟩
            · rcases List.mem_or_eq_of_mem_set hz with hz | hz
              · exact HZT.out z hz
              · rw [hz]; exact HZ8.out
            · have := HBZ.out.set j (.int .u8 (y : Int))
              rw [u8s_set] at this
              exact this
            · exact HBT.out.trans (But.set1 wr gb j _)
        · have hkb : But (· = gb) wo wr := (HT3.out.mono (fun _ _ h => h.elim)).trans hbt
          have HNBi := Hid.mk' ((HNB.out.but hkb (fun j _ hjl e => by have := HGB.out; omega)).grow ((But.refl (fun _ => False) wr).alloc (.cells #[.slice (some ⟨gb, 0, none⟩) 256 256] 22)))
          have HGRi : Hid (Grow w2 wr) := HGR.out.then hkb (fun i hi e => by have := HGB.out; have := HGR.out.size; omega)
          have HEL : Hid (El (wr.alloc (.cells #[.slice (some ⟨gb, 0, none⟩) 256 256] 22)) (.slice (some ⟨gb, 0, none⟩) 256 256) gb zs) := ⟨256, [], rfl, Nat.le_refl _, hzl, hzt, by rw [List.append_nil]; exact hbz.but (R := fun _ => False) ((But.refl _ wr).alloc _) (fun h => h)⟩
          have HBLK : Hid (Blk (wr.alloc (.cells #[.slice (some ⟨gb, 0, none⟩) 256 256] 22)) wr.heap.size 22 [.slice (some ⟨gb, 0, none⟩) 256 256]) := Blk.new rfl
          have HLO : Hid (∀ i, i < k → G i ≠ gb) := fun i hi e => by
            obtain ⟨V, -, hV⟩ := HNB.out.ex
            have := (hV i hi).lt
            have := HGB.out
            omega
          have HRO : Hid ((Value.slice ra k rc).ownBlock ≠ some gb) := fun e => by
            have := (HNB.out.row.lt _ e).2
            have := HGB.out
            omega
          clear hkb hbz hbt hzl hzt HF3
          rcases (by omega : (¬ j < fn) ∨ (j < fn ∧ ¬ j < 256)) with hje | hje
          case' inr => obtain ⟨hje1, hje2⟩ := hje
          all_goals
            clear hj2
            go_wp2_with (first
              | (refine wpList_someH rfl (exec_append (v := .slice ra k rc) (n := k) (xs := (List.range k).map HNBi.out.ex.choose) (news := [.slice (some ⟨gb, 0, none⟩) 256 256]) Tryd.underlying45 infS rfl (by decide) rfl rfl HNBi.out.row rfl rfl (fun j u hj => HBLK.out.cells0 j u hj) (fun u hu => by rw [show u = .slice (some ⟨gb, 0, none⟩) 256 256 by simpa using hu]; rfl) (by omega) (by decide)) ?_; intro v5 w5 hap)
              | fail)
            have hpu := Nb.push HNBi.out HEL.out (by have := HGR.out.size; have := HGB.out; omega) (Nat.le_trans HGRi.out.size ((But.refl (fun _ => False) wr).alloc _).size) HLO.out HRO.out hap
            refine ⟨⟨k + 1, v5, rfl, by omega, by go_num, _, _, hpu, (HGRi.out.trans ((But.refl _ wr).alloc _)).then hap.but (fun i hi e => ?_)⟩, by simp [intOf]; omega⟩
            have := (HNBi.out.rnew i e).1
            omega
    · have hkc : k = c := by omega
      subst hkc
      have HO9 := Hid.mk' (HO2.out.grow hgr)
      have HB9 := Hid.mk' (HB2.out.but hgr (fun h => h))
      have HB09 : Hid (Blk wr g0 44 ([] ++ pcells Pn.zero noS ++ [])) := by
        show Blk _ _ _ _
        rw [List.nil_append, List.append_nil]; exact HB02.out.but hgr (fun h => h)
      clear hnb hgr
      go_wp2_with (first
        | (refine wpList_load_cells rfl _ _ rfl ⟨g, 0, none⟩ rfl (pcells P (.slice va ln vc)) _ HB9.out.pl Tryd.underlying44 rfl iPl ?_)
        | (refine wpList_store_at rfl _ _ _ rfl g0 0 (pcells P (.slice va ln vc)) rfl rfl 44 [] (pcells Pn.zero noS) [] HB09.out rfl rfl iPl (pcells_one _ rfl) ?_; intro w3 hb3 hbut3; rw [List.nil_append, List.append_nil] at hb3)
        | fail)
      have hs2 : g0 < w2.heap.size := HB02.out.lt
      have hs3 := HT0.out.size
      have hs4 := HG2.out.size
      have hno : ∀ j, (Value.slice va ln vc).ownBlock = some j → ¬ j = g0 := fun j hj e => by
        have := HO9.out.new j hj
        have := HB0.out.lt
        omega
      refine bodyPost_ret (results_plan_tmp rfl _ _ g0 _ _ _ _ rfl hb3 Tryd.underlying44 rfl iPl rfl) rfl ⟨⟨.slice va ln vc, r, G, T, ?_, ?_, ?_⟩, ?_⟩
      · rw [← HP.out]; rfl
      · rw [← HP.out]
        have h9 := HO9.out.but hbut3 hno
        exact ⟨h9.row, fun k hk => Nat.le_trans hs3 (h9.new k hk)⟩
      · rw [← HC.out]
        exact (HNB.out.but hbut3 (fun j hj _ e => by omega)).mono (by omega)
      · exact ((HT0.out.trans HG2.out).trans HGR.out).then hbut3 (fun j hj e => by have := HG0.out; omega)
end Go.Proofs.YtbidllclcedjbaaDoor
/- tree's laws: awake. -/
namespace Go.Proofs.YtbidllclcedjbaaDoor
open Go.RowKit

theorem exec_eqT {w : World} {o : Oper} {ρ : Operand → Value} {t t' : TypeId} {x y : Operand} {N M : Array Value} {b : Bool} (ho : o.op = .binOp .eql t x y t') (hx : ρ x = .agg N) (hy : ρ y = .agg M) (hT : Tryd.prog.eqGuardType Tryd.prog.depth t = false) (h : (Op.equalIn 10000 t (.agg N) (.agg M)).run Tryd.prog w = .ok b w) : (execOp ρ o).run Tryd.prog w = .ok (.value (.bool b)) w :=
  exec_binP ho hx hy (run_eqGuard_agg (P := Tryd.prog) (w := w) .eql t x y N M hT) (by rw [run_eql_struct, h]; rfl)
theorem same_grow {v u : Value} {xs ys : List Nat} {w : World} (hv : Bs w v xs) (hu : Bs w u ys) : Calls Tryd.prog 31 #[v, u] w fun e w' => e = .returned (.bool (decide (xs = ys))) ∧ Grow w w' := by
  refine (same_any hv hu).mono ?_
  rintro e w' ⟨rfl, d, rfl⟩
  exact ⟨rfl, (But.refl _ w).drewN⟩
theorem slice_hiT {b so m cap n : Nat} (hn : n ≤ cap) (w0 : World) :
    (Instr.sliceAt 22 (.slice (some ⟨b, so, none⟩) m cap) none (some (.int .i64 (n : Int))) none).run Tryd.prog w0 = .ok (.slice (some ⟨b, so, none⟩) n cap) w0 := by
  have hn' : (n : Int) ≤ (cap : Int) := by omega
  go_simp
/-- What the example's tree is. -/
theorem ex_plan1 : plan 1 4 = ⟨1, 4, 1, [1], 1, 3, 1, 4, 8, 12⟩ := by
  have e2 : bg 1 16 = 1 := by decide +kernel
  have e3 : bg (12 + 4 * 4) 256 = 1 := by decide +kernel
  unfold plan
  simp only [e2, e3]
  rfl
theorem ex_bld (x : Bk) : bldL (plan 1 4).pages [x] (plan 1 4).levels = [abv [bd 1 x] 1 0] := by
  rw [ex_plan1]
  show upL 1 [x] ++ [] = _
  rw [List.append_nil]
  unfold upL
  rw [show bdL 1 [x] = [bd 1 x] by rfl, show ([x].length + 7) / 8 = 1 by simp]
  rfl
theorem ex_root (x : Bk) : rootOf (plan 1 4) [x] = bd 2 (abv [bd 1 x] 1 0) := by
  unfold rootOf treeOf
  rw [ex_bld]
  rw [show (plan 1 4).head - 1 = 2 by rw [ex_plan1]; rfl]
  simp
theorem ex_node (x : Bk) : (abv [bd 1 x] 1 0).length = 256 ∧ (abv [bd 1 x] 1 0).take 32 = bd 1 x ∧ (abv [bd 1 x] 1 0).getD 32 0 = 0 := by
  have hL : ∀ d ∈ [bd 1 x], wf32 d := fun d hd => by rw [show d = bd 1 x by simpa using hd]; exact bd_wf _ _
  have h1 := (abv_ok hL 1 (by simp) 0).1
  have h2 := abv_kid hL 1 (by simp) 0 0 (by decide)
  have h3 := abv_kid hL 1 (by simp) 0 1 (by decide)
  generalize abv [bd 1 x] 1 0 = N at *
  rw [if_pos (by decide)] at h2
  rw [if_neg (by decide)] at h3
  refine ⟨h1, by simpa [kidL] using h2, ?_⟩
  have := congrArg (fun l => l.getD 0 0) h3
  unfold kidL z32 at this
  simpa [List.getD] using this
set_option maxRecDepth 100000 in
set_option maxHeartbeats 16000000 in
theorem awaket_any {w : World} (hk : Kw w) (hh : Hw w) : Calls Tryd.prog 9 #[] w fun e w' => e = .returned (.bool true) ∧ Grow w w' := by
  obtain ⟨Z, hZ⟩ : ∃ Z, Z = u8s z32 := ⟨_, rfl⟩
  have hz := z32v
  rw [← hZ] at hz
  have HZL : Hid (Z.length = 32) := by show _ = _; rw [hZ]; rfl
  have HZZ := Hid.mk' hz
  have HMD := Hid.mk' (made_tr (x := 0) (Bs.nil w) (by decide))
  rw [show 1 + ((0 : Int) % 300).toNat = 1 by decide] at HMD
  have HK := Hid.mk' hk
  have HH := Hid.mk' hh
  clear hk hh hZ
  go_enter Tryd.func9, Tryd.ntmps9
  go_wp2_with fail
  refine Calls.mono HMD.out ?_
  rintro e w1 ⟨⟨pv, v, G, T, rfl, hop, hnb⟩, hg1⟩
  rw [show bg 1 16 = 1 by decide] at hnb
  obtain ⟨P, hP⟩ : ∃ P, P = plan 1 4 := ⟨_, rfl⟩
  have HP := Hid.mk' hP
  rw [← hP] at hop ⊢
  have HPM : Hid (Mad P) := by show Mad P; rw [hP]; exact plan_mad (by decide) (by decide)
  have HLV : Hid (Lvl P.counters P.levels) := by show Lvl _ _; rw [hP]; exact plan_lvl (by decide) (by decide)
  have HPC : Hid (P.counters = 1) := by show _ = _; rw [hP, ex_plan1]
  obtain ⟨va, vc, rfl⟩ := hop.sl
  have HNB := Hid.mk' hnb
  have HG1 := Hid.mk' hg1
  obtain ⟨la, lc, hle⟩ := hnb.len
  subst hle
  generalize P.levels.length = ln at *
  clear hop hg1 HMD hP hnb
  go_upto_region 2 with (first
    | (refine wpList_runH rfl (exec_allocF rfl (zPl _)) ?_)
    | (refine wpList_store_at rfl _ _ _ rfl w1.heap.size 0 (pcells P (.slice va ln vc)) rfl (by exact rfl) 44 [] (pcells Pn.zero noS) [] (var_new w1) rfl rfl iPl (pcells_one _ rfl) ?_; intro w2 hb2 hbut2; rw [List.nil_append, List.append_nil] at hb2)
    | fail)
  obtain ⟨g1, hgg⟩ : ∃ g, g = w1.heap.size := ⟨_, rfl⟩
  have hg2 := var_grow hbut2
  rw [← hgg] at hb2 ⊢
  have HB2 := Hid.mk' hb2
  have HG2 := Hid.mk' (HG1.out.trans hg2)
  obtain ⟨x, hx⟩ : ∃ x, x = T 0 := ⟨_, rfl⟩
  have HNB2 := Hid.mk' (HNB.out.grow hg2)
  have hps : ∀ w', Grow w2 w' → Ps w' (.slice la 1 lc) [x] := fun w' k => by
    have := (HNB2.out.grow k).ps
    rw [show (List.range 1).map T = [x] by rw [hx]; rfl] at this
    exact this
  have hokx : okB [x] := fun y hy => by
    rw [show y = x by simpa using hy, hx]
    obtain ⟨V, -, hV⟩ := HNB2.out.ex
    obtain ⟨_, _, _, _, h3, h4, _⟩ := hV 0 (by decide)
    exact ⟨h3, h4⟩
  have hbd := build_any (pv := .slice va ln vc) (LgO.none w2 []) HPM.out HLV.out (fun w' k => by
    have k2 : Grow w2 w' := k.mono (fun _ _ e => e rfl)
    exact ⟨HK.out.but (HG2.out.trans k2) (fun h => h), HH.out.but (HG2.out.trans k2) (fun h => h), hps w' k2⟩) (by rw [HPC.out]; rfl) hokx (by decide)
  obtain ⟨N, hN⟩ : ∃ N, N = abv [bd 1 x] 1 0 := ⟨_, rfl⟩
  obtain ⟨R, hR⟩ : ∃ R, R = bd 2 N := ⟨_, rfl⟩
  have hroot : rootOf P [x] = R := by rw [HP.out, ex_root, ← hN, hR]
  have hbl : bldL P.pages [x] P.levels = [N] := by rw [HP.out, ex_bld, ← hN]
  rw [hroot] at hbd
  have HBD := Hid.mk' hbd
  have HPS := Hid.mk' hps
  have HBL := Hid.mk' hbl
  have HND := Hid.mk' (ex_node x)
  rw [← hN] at HND
  have HX := Hid.mk' hokx
  have HRL : Hid (R.length = 32) := by show _ = _; rw [hR]; exact bd_len _ _
  have HR := Hid.mk' hR
  obtain ⟨RN, hRN⟩ : ∃ RN, RN = (u8s R).toArray := ⟨_, rfl⟩
  rw [show dkey R = .agg RN by rw [hRN]; rfl] at HBD
  have HRN := Hid.mk' hRN
  clear hgg hb2 hbut2 hg2 hps hokx hbd hN hR hroot hbl hRN hx
  go_wp2_with (first
    | (refine wpList_load_cells rfl _ _ rfl ⟨g1, 0, none⟩ rfl (pcells P (.slice va ln vc)) _ HB2.out.pl Tryd.underlying44 rfl iPl ?_)
    | fail)
  refine Calls.mono HBD.out ?_
  rintro e w3 ⟨nv, rfl, hbt⟩
  have hg3 : Grow w2 w3 := hbt.but.mono (fun _ _ e => e rfl)
  obtain ⟨own', Q, L, -, -, -, -, -, hbr, hLe⟩ := hbt.ex
  rw [HBL.out] at hLe
  obtain ⟨⟨u0, N'⟩, rfl, hN'⟩ : ∃ e0 : BE, L = [e0] ∧ e0.2 = N := by
    match L, hLe with
    | [e0], h => exact ⟨e0, rfl, by simpa using h⟩
  simp only at hN'
  subst hN'
  have hbs0 := (hbr.el (u0, N') (by simp)).1
  simp only at hbs0
  obtain ⟨nao, ncap, hne, hnc⟩ := hbr.row.shape
  obtain ⟨nb, rfl, -, hnbl, hncell⟩ := hnc (by simp)
  have hne' : nv = .slice (some ⟨nb, 0, none⟩) 1 ncap := hne
  subst hne'
  have cn := hncell 0 u0 rfl
  obtain ⟨hN8, -, ⟨h0, -⟩ | ⟨-, ub, uo, ucap, rfl, huc, hub, hucell⟩⟩ := hbs0
  · have := HND.out.1; rw [h0] at this; simp at this
  have HBS : Hid (Bs w3 (.slice (some ⟨ub, uo, none⟩) N'.length ucap) N') := (hbr.el (.slice (some ⟨ub, uo, none⟩) N'.length ucap, N') (List.mem_singleton.2 rfl)).1
  rw [HND.out.1] at huc HBS cn
  have cu := hucell 32 (by rw [HND.out.1]; decide)
  rw [HND.out.2.2] at cu
  have HG3 := Hid.mk' (HG2.out.trans hg3)
  have HPS3 := Hid.mk' (HPS.out w3 hg3)
  have HLC : Hid (ucap ≥ 256) := huc
  clear hbt hbr hLe hne hnc hncell hN8 hucell hg3 HPS HBD hnbl hub
  obtain ⟨pa, pc, hpe, hpc⟩ := HPS3.out.gen
  simp only [Value.slice.injEq] at hpe
  obtain ⟨rfl, -, rfl⟩ := hpe
  obtain ⟨lb, lo, rfl, hlb, hlc⟩ := hpc (by simp)
  obtain ⟨ux, hux, hbx⟩ := hlc 0 (by simp)
  rw [Nat.add_zero] at hux
  have hbx' : Bs w3 ux x := hbx
  have HBX := Hid.mk' hbx'
  obtain ⟨xa, xn, xc, rfl⟩ := hbx'.sl
  clear hpc hlc hbx hlb
  obtain ⟨g4, hg4⟩ : ∃ g, g = w3.heap.size := ⟨_, rfl⟩
  obtain ⟨w4, hw4⟩ : ∃ w4, w4 = w3.alloc (.cells Z.toArray 26) := ⟨_, rfl⟩
  have hk4 : Grow w3 w4 := by rw [hw4]; exact (But.refl _ w3).alloc _
  have hbz4 : Blk w4 g4 26 Z := by rw [hw4]; exact Blk.new hg4.symm
  go_upto_region 3 with (first
    | (refine wpList_store_u8s i32 rfl _ _ rfl w3.heap.size R HRL.out rfl (by rw [← HRN.out]; rfl) Z HZL.out (by rw [← hw4, ← hg4]; exact hbz4) ?_; intro w5 hb5 hbut5)
    | fail)
  have hg5 : Grow w3 w5 := ((But.refl _ w3).alloc _).then hbut5 (fun i hi e => by omega)
  rw [← hg4] at hb5 ⊢
  have HB5 := Hid.mk' hb5
  have HG35 := Hid.mk' hg5
  obtain ⟨D, hD⟩ : ∃ D, D = bd 1 x := ⟨_, rfl⟩
  have hx256 := (HX.out x (List.mem_singleton.2 rfl)).1
  have hrd := rdig_any (x := 1) (HBX.out.but hg5 (fun _ _ _ h => h)) (by omega)
  rw [← hD] at hrd
  obtain ⟨DN, hDN⟩ : ∃ DN, DN = (u8s D).toArray := ⟨_, rfl⟩
  rw [show dkey D = .agg DN by rw [hDN]; rfl] at hrd
  have HRD := Hid.mk' hrd
  have HDN := Hid.mk' hDN
  have HD := Hid.mk' hD
  have HDL : Hid (D.length = 32) := by show _ = _; rw [hD]; exact bd_len _ _
  have hux5 := grow_cell hg5 hux
  have hux6 : w5.cell? ((⟨lb, lo, none⟩ : Addr).add 0) = some (.slice xa xn xc) := by rw [addr_add, Nat.add_zero]; exact hux5
  have cn5 := grow_cell hg5 cn
  have cu5 := grow_cell hg5 cu
  clear hg5 hb5 hbut5 hw4 hk4 hbz4 hg4 hrd hD hDN hux cn cu hx256
  go_wp2_with fail
  refine Calls.mono HRD.out ?_
  rintro e w6 ⟨rfl, hg6⟩
  have HG6 := Hid.mk' hg6
  obtain ⟨g6, hg6e⟩ : ∃ g, g = w6.heap.size := ⟨_, rfl⟩
  have HBZ6 : Hid (Blk (w6.alloc (.cells Z.toArray 26)) w6.heap.size 26 Z) := Blk.new rfl
  have cn6 := grow_cell hg6 cn5
  have cu6 := grow_cell hg6 cu5
  clear cn5 cu5 hg6 hux5 hux6
  go_upto_region 4 with (first
    | (refine wpList_store_u8s i32 rfl _ _ rfl w6.heap.size D HDL.out rfl (by rw [← HDN.out]; rfl) Z HZL.out HBZ6.out ?_; intro w7 hb7 hbut7)
    | fail)
  have hg7 : Grow w6 w7 := ((But.refl _ w6).alloc _).then hbut7 (fun i hi e => by omega)
  rw [← hg6e] at hb7 ⊢
  have HB7 := Hid.mk' hb7
  have HG7 := Hid.mk' (HG6.out.trans hg7)
  have HR7 := Hid.mk' (HB5.out.but HG7.out (fun h => h))
  have HGA := Hid.mk' (HG3.out.trans (HG35.out.trans HG7.out))
  have HCN : Hid (∀ w', Grow w7 w' → w'.cell? ⟨nb, 0, none⟩ = some (.slice (some ⟨ub, uo, none⟩) 256 ucap)) := fun w' k => grow_cell k (grow_cell hg7 cn6)
  have HCU : Hid (∀ w', Grow w7 w' → w'.cell? ⟨ub, uo + 32, none⟩ = some (.int .u8 ((0 : Nat) : Int))) := fun w' k => grow_cell k (grow_cell hg7 cu6)
  have HB : Hid (∀ w', Grow w7 w' → Bs w' (.slice (some ⟨ub, uo, none⟩) 256 ucap) N') := fun w' k => HBS.out.but ((HG35.out.trans HG7.out).trans k) (fun _ _ _ h => h)
  have HSM : Hid (∀ w', Grow w7 w' → Calls Tryd.prog 31 #[.slice (some ⟨ub, uo, none⟩) 32 ucap, .slice (some ⟨g6, 0, none⟩) 32 32] w' fun e w'' => e = .returned (.bool true) ∧ Grow w' w'') := fun w' k => by
    have h1 := (HB.out w' k).front (n := 32) (by rw [HND.out.1]; decide) (by simp)
    have h2 : Bs w' (.slice (some ⟨g6, 0, none⟩) 32 32) D := by
      have hb := HB7.out.but k (fun h => h)
      refine ⟨by rw [HD.out]; exact (bd_wf 1 x).2, by have := HDL.out; omega, .inr ⟨by have := HDL.out; omega, g6, 0, 32, by rw [HDL.out], by rw [HDL.out]; exact Nat.le_refl _, hb.lt, fun i hi => by rw [Nat.zero_add, hb.cell, u8s_get _ _ hi]⟩⟩
    have := same_grow h1 h2
    rw [HND.out.2.1, ← HD.out] at this
    simpa using this
  have HDG : Hid (∀ w', Grow w7 w' → Calls Tryd.prog 13 #[.int .i64 2, .slice (some ⟨ub, uo, none⟩) 256 ucap] w' fun e w'' => e = .returned (.agg RN) ∧ Grow w' w'') := fun w' k => by
    have := rdig_any (x := 2) (HB.out w' k) (by rw [HND.out.1]; decide)
    rw [← HR.out, show dkey R = .agg RN by rw [HRN.out]; rfl] at this
    exact this
  have HEQ : Hid (∀ w', (Op.equalIn 10000 26 (.agg RN) (.agg RN)).run Tryd.prog w' = .ok true w') := fun w' => by
    rw [HRN.out]; exact equal_same R HRL.out w'
  have HHI := Hid.mk' (fun w' => slice_hiT (b := ub) (so := uo) (m := 256) (cap := ucap) (n := 32) (by have := HLC.out; omega) w')
  clear hb7 hbut7 hg7 cn6 cu6 hg6e HBZ6 HB5 HPS3 HBS
  refine region_chain [] [0, 1, 2, 3, 4, 5, 6, 7, 8, 9, 10, 11, 12, 13, 14, 15, 16, 17, 18, 19, 20, 21, 22, 23, 24, 25, 26, 27, 28, 29, 30, 31] (Grow w7) (Grow w7) (by kernel_rfl) (by kernel_rfl) (fun _ _ h k => h.trans k) (fun _ h => h) ((But.refl _ w7).drew) ?_
  intro ι hne X hX
  have c1 : ∀ x, (X x).cell? ⟨nb, 0, none⟩ = some (.slice (some ⟨ub, uo, none⟩) 256 ucap) := fun x => HCN.out (X x) (hX x)
  have c2 : ∀ x, (X x).cell? ⟨ub, uo + 32, none⟩ = some (.int .u8 ((0 : Nat) : Int)) := fun x => HCU.out (X x) (hX x)
  iterate 11 (refine still_step rfl (fun K hK => ?_); go_simp; refine hK _ ?_; clear hK K)
  refine still_val rfl (.slice (some ⟨ub, uo, none⟩) 32 ucap) rfl (fun x => exec_slc rfl rfl rfl rfl (HHI.out (X x))) ?_
  intro K hK; go_simp; refine hK _ ?_; clear hK K
  refine still_val rfl (.slice (some ⟨g6, 0, none⟩) 32 32) rfl (fun x => exec_slc rfl rfl rfl rfl (slice32 (X x) g6)) ?_
  intro K hK; go_simp; refine hK _ ?_; clear hK K
  refine still_call rfl (.bool true) 31 #[.slice (some ⟨ub, uo, none⟩) 32 ucap, .slice (some ⟨g6, 0, none⟩) 32 32] rfl (fun _ => by kernel_rfl) (fun x => HSM.out (X x) (hX x)) ?_
  intro K hK; go_simp; refine hK _ ?_; clear hK K
  iterate 2 (refine still_step rfl (fun K hK => ?_); go_simp; refine hK _ ?_; clear hK K)
  refine still_val rfl (.agg RN) rfl (fun x => by rw [HRN.out]; exact run_load_arr ukt i32 (HR7.out.but (hX x) (fun h => h)).cells0 HRL.out rfl rfl) ?_
  intro K hK; go_simp; refine hK _ ?_; clear hK K
  iterate 3 (refine still_step rfl (fun K hK => ?_); go_simp; refine hK _ ?_; clear hK K)
  refine still_call rfl (.agg RN) 13 #[.int .i64 2, .slice (some ⟨ub, uo, none⟩) 256 ucap] rfl (fun _ => by kernel_rfl) (fun x => HDG.out (X x) (hX x)) ?_
  intro K hK; go_simp; refine hK _ ?_; clear hK K
  refine still_val rfl (.bool true) rfl (fun x => exec_eqT rfl rfl rfl (by kernel_rfl) (HEQ.out (X x))) ?_
  intro K hK; go_simp; refine hK _ ?_; clear hK K
  iterate 10 (refine still_step rfl (fun K hK => ?_); go_simp; refine hK _ ?_; clear hK K)
  refine still_nil ?_
  clear hX hne c1 c2
  intro w8 hw8
  have HG8 := Hid.mk' (HGA.out.trans hw8)
  clear hw8
  go_wp2
  go_ret
  exact ⟨rfl, HG8.out⟩
end Go.Proofs.YtbidllclcedjbaaDoor
/- What a walk is told of a slice of slices of bytes that came in. -/
namespace Go.Proofs.YtbidllclcedjbaaDoor
open Go.ChangeShapes Go.WideShapes Go.ChangeAt Go.RowKit Go.Deep

section
variable {H : Type} {enc : TypeId × Value → H} {P : Program} {w : World} {base : Nat} {spare : Nat → Bool} {held : Bool}

theorem weightsAll_mem {e : TypeId} : ∀ {l : List (DataW H)} {d : DataW H}, d ∈ l → ∀ n ∈ d.weights P e, n ∈ DataW.weightsAll P e l
  | x :: r, d, hd, n, hn => by
    simp only [DataW.weightsAll, List.mem_append]
    rcases List.mem_cons.1 hd with rfl | hd
    · exact .inl hn
    · exact .inr (weightsAll_mem hd n hn)

/-- Bytes inside of what came in. -/
theorem view_inner {t e : TypeId} {v : Value} {d : DataW H} {ps : List MemPlace} {fuel : Nat}
    (hu : P.underlying t = some (.slice e)) (hf : P.underlying e = some (.int .u8)) (hc : P.cellsOf e = 1) (hb : P.bytesOf e = 1)
    (h : DataW.trod enc P w base spare held fuel t [v] = some (d, ps)) (hlt : ∀ x ∈ ps, x.block < w.heap.size) (hsz : ∀ n ∈ d.weights P t, n ≤ reachBytes) : ∃ zs, Bs w v zs ∧ zs.length ≤ 140737488351232 := by
  rcases open_slice1 hu hc h with ⟨hcs, _⟩ | ⟨a, len, cap, m, n, V, D, Pl, hcs, _, hl, hm, hmm, hx, hcell⟩
  · simp only [List.cons.injEq, and_true] at hcs
    subst hcs
    exact ⟨[], Bs.nil _, by simp⟩
  · simp only [List.cons.injEq, and_true] at hcs
    subst hcs
    simp only [Prod.mk.injEq] at hx
    obtain ⟨rfl, rfl⟩ := hx
    have hlm : len ≤ m := by rw [hmm]; split <;> omega
    have hreach : len * 1 ≤ 140737488351232 := by
      have := hsz ((len + (m - len)) * 1) (by simp [DataW.weights, hu, hb])
      simp only [reachBytes] at this
      omega
    have hfl : ∀ i, i < len → ∃ b : Nat, V i = .int .u8 (b : Int) ∧ b < 256 := by
      intro i hi
      obtain ⟨b, hb1, _, hw0⟩ := DataW.trod_int hf (hcell i (by omega)).2
      obtain ⟨hw, hw2⟩ : 0 ≤ b ∧ b < 256 := by
        have h8 : IntKind.u8.min ≤ b ∧ b ≤ IntKind.u8.max := by simpa [Lit.wf, go_sem] using hw0
        have e1 : IntKind.u8.min = 0 := rfl
        have e2 : IntKind.u8.max = 255 := rfl
        omega
      simp only [List.cons.injEq, and_true] at hb1
      exact ⟨b.toNat, by rw [hb1, Int.toNat_of_nonneg hw], by omega⟩
    obtain ⟨B, hB⟩ := choose_lt (α := Nat) (p := fun i b => V i = .int .u8 (b : Int) ∧ b < 256) hfl
    refine ⟨(List.range len).map B, ⟨?_, by simp; omega, ?_⟩, by simpa using hreach⟩
    · intro z hz
      obtain ⟨i, hi, rfl⟩ := List.mem_map.1 hz
      exact (hB i (by simpa using hi)).2
    · by_cases h0 : len = 0
      · subst h0; exact .inl ⟨by simp, .inr ⟨_, _, rfl⟩⟩
      · right
        obtain ⟨b, off, spot⟩ := a
        have hspot : spot = none := by simpa [Addr.add] using World.cell?_spot (hcell 0 (by omega)).1
        subst hspot
        refine ⟨by simp; omega, b, off, cap, by simp, by simpa using hl, hlt (.cell b off) (List.mem_append_left _ (MemPlace.mem_row.2 ⟨0, by omega, by simp⟩)), ?_⟩
        intro i hi
        have hi' : i < len := by simpa using hi
        rw [← add_plain, (hcell i (by omega)).1, (hB i hi').1]
        simp [hi']

/-- Slices of bytes that came in. -/
theorem view_parts {t e q : TypeId} {v : Value} {d : DataW H} {ps : List MemPlace} {r : Reach} {b0 : Nat} {ts : List TypeId} {ds : List (DataW H)} {j : Nat}
    (hu : P.underlying t = some (.slice e)) (he : P.underlying e = some (.slice q)) (hq : P.underlying q = some (.int .u8)) (hce : P.cellsOf e = 1) (hcq : P.cellsOf q = 1) (hbe : P.bytesOf e = 24) (hbq : P.bytesOf q = 1)
    (hval : Value.okWide P w r b0 t v) (h : DataW.Trod enc P w base spare held t v d ps) (hlt : ∀ x ∈ ps, x.block < w.heap.size)
    (hsz : (DataW.weightsEach P ts ds).all (· ≤ reachBytes) = true) (ht : ts[j]? = some t) (hd : ds[j]? = some d) :
    ∃ xss, Ps w v xss ∧ xss.length * 24 ≤ 140737488351232 ∧ ∀ x ∈ xss, x.length ≤ 140737488351232 := by
  obtain ⟨a0, len, cap, rfl⟩ := okWide_slice hu hval
  obtain ⟨fuel, hf1⟩ := h
  rcases open_slice1 hu hce hf1 with ⟨hcs, _⟩ | ⟨a, len', cap', m, n, V, D, Pl, hcs, _, hl, hm, hmm, hx, hcell⟩
  · simp [Value.cells] at hcs
    obtain ⟨rfl, rfl, rfl⟩ := hcs
    exact ⟨[], .inl ⟨rfl, .inl rfl⟩, by simp, by simp⟩
  · simp [Value.cells] at hcs
    obtain ⟨rfl, rfl, rfl⟩ := hcs
    simp only [Prod.mk.injEq] at hx
    obtain ⟨rfl, rfl⟩ := hx
    have hlm : len ≤ m := by rw [hmm]; split <;> omega
    have hreach : len * 24 ≤ 140737488351232 := by
      have := sized_slice hsz ht hd hu
      rw [hbe] at this
      simp only [List.length_map, List.length_range, reachBytes] at this
      omega
    have hfl : ∀ i, i < len → ∃ zs : List Nat, Bs w (V i) zs ∧ zs.length ≤ 140737488351232 := by
      intro i hi
      refine view_inner he hq hcq hbq (hcell i (by omega)).2 (fun x hx => hlt x ?_) (fun k hk => ?_)
      · exact List.mem_append_right _ (List.mem_flatMap.2 ⟨i, by simp; omega, hx⟩)
      · have hm2 : k ∈ (DataW.slice ((List.range len).map D) ((List.range (m - len)).map fun j => D (len + j))).weights P t := by
          simp only [DataW.weights, hu]
          refine List.mem_cons_of_mem _ (List.mem_append_left _ (weightsAll_mem (d := D i) ?_ k hk))
          exact List.mem_map.2 ⟨i, by simpa using hi, rfl⟩
        have := List.all_eq_true.1 hsz _ (DataW.weights_mem_each ht hd k hm2)
        simpa using this
    obtain ⟨B, hB⟩ := choose_lt (α := List Nat) (p := fun i zs => Bs w (V i) zs ∧ zs.length ≤ 140737488351232) hfl
    refine ⟨(List.range len).map B, ?_, by simpa using hreach, ?_⟩
    · by_cases h0 : len = 0
      · subst h0; exact .inl ⟨by simp, .inr ⟨_, _, rfl⟩⟩
      · right
        obtain ⟨b, off, spot⟩ := a
        have hspot : spot = none := by simpa [Addr.add] using World.cell?_spot (hcell 0 (by omega)).1
        subst hspot
        refine ⟨by simp; omega, b, off, cap, by simp, hlt (.cell b off) (List.mem_append_left _ (MemPlace.mem_row.2 ⟨0, by omega, by simp⟩)), ?_⟩
        intro i hi
        have hi' : i < len := by simpa using hi
        refine ⟨V i, ?_, ?_⟩
        · rw [← add_plain]; exact (hcell i (by omega)).1
        · have e : ((List.range len).map B).getD i [] = B i := by simp [List.getD, hi']
          rw [e]; exact (hB i hi').1
    · intro x hx
      obtain ⟨i, hi, rfl⟩ := List.mem_map.1 hx
      exact (hB i (by simpa using hi)).2
end
end Go.Proofs.YtbidllclcedjbaaDoor
