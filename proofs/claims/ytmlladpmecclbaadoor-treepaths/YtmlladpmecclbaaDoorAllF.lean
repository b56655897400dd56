/- RefJoin, TrRef, PlRef, TrMade, TrAwake, TrCkAll, TrGood, TrPath, Parts, JoinRow, TreeDigestsP, TreeBindsP, ArrNum. -/
import Derived.Test.YtmlladpmecclbaaDoorAllB
import Derived.Test.YtmlladpmecclbaaDoorAllD
import Derived.Test.YtmlladpmecclbaaDoorAllE
import Derived.Test.YtmlladpmecclbaaDoorAllA
import Derived.Test.YtmlladpmecclbaaDoorAllC
import Derived.ProofKit
import Derived.OpenShut
import Derived.ChangeOld
import Derived.Below
/- The reference's Join. -/
namespace Go.Proofs.YtmlladpmecclbaaDoor
open Go.RowKit

/-- append, by what it was seen to give. -/
theorem wpList_append_seen {w w' : World} {ops : Array Oper} {rest : List Oper} {o : Oper} {a : Act} {Q : Exit → Act → World → Prop} (hgd : o.guard = none) (s x : Operand) (t : TypeId)
    (ho : o.op = .call { callee := .builtin .append, args := #[s, x], argTypes := #[t, t] }) (vs vx : Value) (hs : a.eval s = vs) (hx : a.eval x = vx) {v' : Value}
    (hr : (Builtin.append_ #[t, t] o.type #[vs, vx]).run Tryd.prog w = .ok v' w')
    (h : wpList Tryd.prog ops Q rest (a.put o.dst v') w') : wpList Tryd.prog ops Q (o :: rest) a w :=
  wpList_plain hgd fun _ hK => by
    unfold Oper.wp execOp
    simp only [ho, resolve, invoke, builtin, Sem.run_bind, Sem.run_pure, Result.andThen_ok, List.map_toArray, List.map_cons, List.map_nil, hs, hx, hr]
    exact hK _ _ h

/-- Bytes behind bytes that are the call's own. -/
theorem append_bytes {w : World} {base : Nat} {v u : Value} {zs ys : List Nat} (ty : TypeId) (hv : Ow w base v zs) (hu : Bs w u ys) (hl : zs.length + ys.length ≤ 140737488355328) (hb : base ≤ w.heap.size) :
    ∃ v' w', (Builtin.append_ #[22, 22] ty #[v, u]).run Tryd.prog w = .ok v' w' ∧ Ow w' base v' (zs ++ ys) ∧ w.grownBy w' v.ownBlock := by
  obtain ⟨i0, hi, hz0, hz1, hz2⟩ := info_parts u8info
  have hlt : ∀ z ∈ zs ++ ys, z < 256 := by
    intro z hz
    rcases List.mem_append.1 hz with h | h
    · exact hv.lt z h
    · exact hu.1 z h
  obtain ⟨ao, cap, rfl, hnone, hcells⟩ := hu.gen
  cases ao with
  | none =>
    have hy : ys = [] := List.eq_nil_of_length_eq_zero (hnone rfl).1
    subst hy
    obtain rfl : cap = 0 := (hnone rfl).2
    have hr := run_append_owned_none (P := Tryd.prog) w base 22 ty 5 i0 1 Tryd.underlying22 hi _ zs.length (u8s zs) hv.own
    exact ⟨v, w, hr, by simpa using hv, World.grownBy.refl _ _⟩
  | some ad =>
    obtain ⟨v', w', hr, ho, hg, _⟩ := run_append_own (P := Tryd.prog) w base 22 ty 5 i0 _ 1 1 Tryd.underlying22 hi hz0 hz1 hz2 rfl (by decide) v zs.length (u8s zs) hv.own ad ys.length cap (u8s ys) (by simp [u8s]) (hcells ad rfl) (u8s_one _) (by unfold maxLen; omega) (by omega) hb
    refine ⟨v', w', hr, ⟨hlt, by simp; omega, ?_⟩, hg⟩
    rw [List.length_append, u8s_append]; exact ho

set_option maxRecDepth 100000 in
set_option maxHeartbeats 1000000 in
theorem rjoin_any {w : World} {p : Value} {xss : List (List Nat)} (hp : Ps w p xss) (hl : xss.flatten.length ≤ 1048576) (hx : xss.length ≤ 140737488351232) :
    Calls Tryd.prog 20 #[p] w fun e w' => ∃ v', e = .returned v' ∧ Ow w' w.heap.size v' xss.flatten ∧ Below w.heap.size w w' := by
  obtain ⟨ao, cap, rfl, hps⟩ := hp.gen
  have HPS := Hid.mk' hps
  obtain ⟨n, hn⟩ : ∃ n, n = xss.length := ⟨_, rfl⟩
  obtain ⟨F, hF⟩ : ∃ F : Nat → List Nat, F = fun k => (xss.take k).flatten := ⟨_, rfl⟩
  obtain ⟨G, hG⟩ : ∃ G : Nat → List Nat, G = fun k => xss.getD k [] := ⟨_, rfl⟩
  have HF : Hid (∀ k, k < n → F (k + 1) = F k ++ G k) := by rw [hF, hG]; intro k hk; exact flat_next xss k (by omega)
  have HF0 : Hid (F 0 = []) := by rw [hF]; rfl
  have HFE : Hid (F n = xss.flatten) := by show _ = _; rw [hF, hn]; simp
  have HFB : Hid (∀ k, (F k).length ≤ 1048576) := by rw [hF]; intro k; exact Nat.le_trans (flat_le xss k) hl
  have HPG : Hid (0 < n → ∃ b off, ao = some ⟨b, off, none⟩ ∧ b < w.heap.size ∧ ∀ i, i < n → ∃ u, w.cell? ⟨b, off + i, none⟩ = some u ∧ Bs w u (G i)) := by rw [hn, hG]; exact HPS.out
  rw [← hn, ← HFE.out]
  rw [← hn] at hx
  clear hp hps HPS hF hG HFE hn hl
  go_enter Tryd.func20, Tryd.ntmps20
  go_wp2
  go_loopw [3, 4] (fun s i wr => ∃ k : Nat, k ≤ n ∧ i = .int .i64 k ∧ Ow wr w.heap.size s (F k) ∧ Below w.heap.size w wr) (fun _ i _ => n - (intOf i).toNat)
  case atStart => exact ⟨0, Nat.zero_le _, rfl, by rw [HF0.out]; exact Ow.nil _ _, Below.refl _ _⟩
  case round =>
    obtain ⟨k, hkn, rfl, ho, hbel⟩ := hrel
    have hsz := hbel.size
    by_cases hlt : k < n
    · have hlti : (k : Int) < (n : Int) := by omega
      obtain ⟨b, off, rfl, hb, hc⟩ := HPG.out (by omega)
      obtain ⟨u, hu, hbs⟩ := hc k hlt
      have hu' : wr.cell? ⟨b, off + k, none⟩ = some u := (hbel.cell (by exact hb)).trans hu
      have hbs' : Bs wr u (G k) := hbs.below hbel
      have hlen := HFB.out (k + 1)
      rw [HF.out k hlt, List.length_append] at hlen
      obtain ⟨v', w', hr, hown, hgr⟩ := append_bytes 22 ho hbs' (by omega) hsz
      rw [← HF.out k hlt] at hown
      have HR := Hid.mk' hr
      have HOW := Hid.mk' hown
      have HB : Hid (Below w.heap.size w w') := hbel.grown hgr (by omega) (fun j hj => (ho.ge j hj).1)
      obtain ⟨au, cu, rfl, -, -⟩ := hbs.gen
      clear hu hbs hbs' hlen hc hr hown hgr hbel ho
      go_wp2_with (at_builtin; refine wpList_append_seen rfl _ _ 22 rfl _ _ rfl rfl HR.out ?_)
      refine ⟨⟨k + 1, by omega, by go_num, HOW.out, HB.out⟩, by simp [intOf]; omega⟩
    · have hge : ¬ ((k : Int) < (n : Int)) := by omega
      obtain rfl : k = n := by omega
      go_wp2
      go_ret
      exact ⟨_, rfl, ho, hbel⟩
end Go.Proofs.YtmlladpmecclbaaDoor
/- tree's reference: Input, Digest. -/
namespace Go.Proofs.YtmlladpmecclbaaDoor
open Go.RowKit

theorem be4 (n : Nat) : be n 4 = [n / 16777216 % 256, n / 65536 % 256, n / 256 % 256, n % 256] := by
  simp [be]
set_option maxRecDepth 100000 in
set_option maxHeartbeats 4000000 in
theorem rinput_any {w : World} {v : Value} {b : List Nat} {x : Int} (hb : Bs w v b) (hl : b.length ≤ 1000000) :
    Calls Tryd.prog 45 #[.int .i64 x, v] w fun e w' => ∃ v', e = .returned v' ∧ Ow w' w.heap.size v' (inp x b) ∧ Grow w w' := by
  obtain ⟨n, hnx⟩ : ∃ n, n = u32of x := ⟨_, rfl⟩
  have hn4 : n < 4294967296 := by rw [hnx]; exact u32of_lt x
  have hw1 : IntKind.u32.wrap x = (n : Int) := by rw [hnx, u32of_cast]; rfl
  obtain ⟨d3, h3⟩ : ∃ d, d = n / 16777216 := ⟨_, rfl⟩
  obtain ⟨d2, h2⟩ : ∃ d, d = n / 65536 % 256 := ⟨_, rfl⟩
  obtain ⟨d1, h1⟩ : ∃ d, d = n / 256 % 256 := ⟨_, rfl⟩
  obtain ⟨d0, h0⟩ : ∃ d, d = n % 256 := ⟨_, rfl⟩
  have hbe : inp x b = [1, d3, d2, d1, d0] ++ b := by rw [inp, ← hnx, be4, h3, h2, h1, h0, Nat.mod_eq_of_lt (a := n / 16777216) (by omega)]
  rw [hbe]
  have e3 : (n : Int) / 16777216 = (d3 : Int) := by omega
  have e2 : (n : Int) / 65536 % 256 = (d2 : Int) := by omega
  have e1 : (n : Int) / 256 % 256 = (d1 : Int) := by omega
  have e0 : (n : Int) % 256 = (d0 : Int) := by omega
  have HLT : Hid (d3 < 256 ∧ d2 < 256 ∧ d1 < 256 ∧ d0 < 256) := by show _ ∧ _ ∧ _ ∧ _; omega
  have HB := Hid.mk' hb
  have HL := Hid.mk' hl
  obtain ⟨a1, n1, c1, rfl⟩ := hb.sl
  obtain ⟨W0, hW0⟩ : ∃ W0, W0 = w.alloc (.cells #[.int .u8 1, .int .u8 (d3 : Int), .int .u8 (d2 : Int), .int .u8 (d1 : Int), .int .u8 (d0 : Int)] 5) := ⟨_, rfl⟩
  have hg0 : Grow w W0 := by rw [hW0]; exact (But.refl _ w).alloc _
  have hbk : Blk W0 w.heap.size 5 (u8s [1, d3, d2, d1, d0]) := by rw [hW0]; exact Blk.new rfl
  have hlt := HLT.out
  have hown : Ow W0 w.heap.size (.slice (some ⟨w.heap.size, 0, none⟩) 5 5) [1, d3, d2, d1, d0] := by
    have := block_own (B := w.heap.size) hbk (Nat.le_refl _) (fun z hz => by
      simp only [List.mem_cons, List.not_mem_nil, or_false] at hz
      omega) (by simp)
    exact this
  obtain ⟨v', w', hrun, ho, hgr⟩ := append_bytes 22 hown (hb.but hg0 (fun _ _ _ h => h)) (by simp; omega) hg0.size
  have HRUN := Hid.mk' hrun
  have HO := Hid.mk' ho
  have HG : Hid (Grow w w') := hg0.grown hgr (fun k hk hlt => by cases hk; exact absurd hlt (Nat.lt_irrefl _))
  have HW0 := Hid.mk' hW0
  clear hb hl hnx hbe h3 h2 h1 h0 hg0 hbk hlt hown hrun ho hgr hW0
  go_enter Tryd.func45, Tryd.ntmps45
  go_upto_region 3 with fail
  rw [← HW0.out]
  go_wp2_with (first
    | (refine wpList_append_seen rfl _ _ _ rfl _ _ rfl rfl HRUN.out ?_)
    | fail)
  go_ret
  exact ⟨_, rfl, HO.out, HG.out⟩
set_option maxRecDepth 100000 in
set_option maxHeartbeats 4000000 in
theorem rdig_any {w : World} {v : Value} {b : List Nat} {x : Int} (hb : Bs w v b) (hl : b.length ≤ 1000000) :
    Calls Tryd.prog 30 #[.int .i64 x, v] w fun e w' => e = .returned (dkey (bd x b)) ∧ Grow w w' := by
  obtain ⟨Z, hZ⟩ : ∃ Z, Z = u8s z32 := ⟨_, rfl⟩
  have hz := z32v
  rw [← hZ] at hz
  have HZL : Hid (Z.length = 32) := by show _ = _; rw [hZ]; rfl
  obtain ⟨g0, hg0⟩ : ∃ g, g = w.heap.size := ⟨_, rfl⟩
  obtain ⟨W0, hW0⟩ : ∃ W0, W0 = w.alloc (.cells Z.toArray 31) := ⟨_, rfl⟩
  have hT0 : Grow w W0 := by rw [hW0]; exact (But.refl _ w).alloc _
  have HR0 : Hid (Blk W0 g0 31 Z) := by show Blk _ _ _ _; rw [hW0]; exact Blk.new hg0.symm
  have HI := Hid.mk' (rinput_any (x := x) (hb.but hT0 (fun _ _ _ h => h)) hl)
  have HT0 := Hid.mk' hT0
  have HG0 := Hid.mk' hg0
  have HW0 := Hid.mk' hW0
  have HL := Hid.mk' hl
  obtain ⟨D, hD⟩ : ∃ D, D = bd x b := ⟨_, rfl⟩
  have HD := Hid.mk' hD
  have HDL : Hid (D.length = 32) := by show _ = _; rw [hD]; exact bd_len _ _
  rw [← hD]
  obtain ⟨a1, n1, c1, rfl⟩ := hb.sl
  clear hb hl hZ hg0 hW0 hT0 hD
  go_enter Tryd.func30, Tryd.ntmps30
  go_wp2_with fail
  rw [← HW0.out, ← HG0.out]
  refine Calls.mono HI.out ?_
  rintro e w1 ⟨v1, rfl, ho1, hg1⟩
  have hof := refOf_any ho1.bs (by rw [inp_len]; have := HL.out; omega)
  rw [show digest (inp x b) = D by rw [HD.out]; rfl] at hof
  have HOF := Hid.mk' hof
  have HG1 := Hid.mk' (HT0.out.trans hg1)
  have HR1 := Hid.mk' (HR0.out.but hg1 (fun h => h))
  obtain ⟨a2, n2, c2, rfl⟩ := ho1.bs.sl
  clear hof hg1 ho1 HI HR0
  go_wp2_with fail
  refine Calls.mono HOF.out ?_
  rintro e w2 ⟨rfl, hg2⟩
  have HG2 := Hid.mk' (HG1.out.trans hg2)
  have HR2 := Hid.mk' (HR1.out.but hg2 (fun h => h))
  clear hg2 HOF HR1
  go_wp2_with (first
    | (refine wpList_store_u8s i32 rfl _ _ rfl g0 D HDL.out rfl rfl Z HZL.out HR2.out ?_; intro W9 hb9 hbut9)
    | fail)
  refine bodyPost_ret (results_cell_row rfl _ _ g0 _ _ _ _ rfl hb9 ukt rfl (by rw [i32]; simp [HDL.out])) rfl ⟨rfl, ?_⟩
  exact HG2.out.then hbut9 (fun i hi e => by have := HG0.out; omega)
end Go.Proofs.YtmlladpmecclbaaDoor
/- The reference's begun, Of, Same. -/
namespace Go.Proofs.YtmlladpmecclbaaDoor
open Go.RowKit

set_option maxRecDepth 100000 in
theorem rbegun_any (w : World) (n s : Nat) (h1 : n ≤ 100000) (h0 : 1 ≤ s) (h2 : s ≤ 100000) : Calls Tryd.prog 36 #[.int .i64 (n : Int), .int .i64 (s : Int)] w fun e w' => e = .returned (.int .i64 (bg n s : Int)) ∧ w' = w := by
  obtain ⟨N, hN⟩ : ∃ N : Int, N = (n : Int) := ⟨_, rfl⟩
  obtain ⟨S, hS⟩ : ∃ S : Int, S = (s : Int) := ⟨_, rfl⟩
  rw [← hN, ← hS]
  have hN1 : N ≤ 100000 := by omega
  have hS0 : 1 ≤ S := by omega
  have hS1 : S ≤ 100000 := by omega
  have HB : Hid (∀ k : Nat, (k * s < n ↔ k < bg n s)) := fun k => by
    unfold bg
    rw [Nat.lt_div_iff_mul_lt (by omega)]
    omega
  have HNS := Hid.mk' (And.intro hN hS)
  have HBB : Hid (bg n s ≤ 200000) := Hid.mk' (Nat.le_trans (Nat.div_le_self _ _) (by omega))
  clear hN hS h1 h0 h2
  go_enter Tryd.func36, Tryd.ntmps36
  go_wp2
  go_loopw [5] (fun kv wr => ∃ k : Nat, kv = .int .i64 k ∧ k ≤ bg n s ∧ wr = w) (fun kv _ => bg n s - (intOf kv).toNat)
  case atStart => exact ⟨0, rfl, Nat.zero_le _, rfl⟩
  case round =>
    obtain ⟨k, rfl, hk, rfl⟩ := hrel
    have hki : (k : Int) ≤ 200000 := by have := HBB.out; omega
    have hmx : (k : Int) * S = ((k * s : Nat) : Int) := by rw [HNS.out.2, Int.natCast_mul]
    obtain ⟨M, hM⟩ : ∃ M : Int, M = ((k * s : Nat) : Int) := ⟨_, rfl⟩
    rw [← hM] at hmx
    have hM1 : M ≤ 30000000000 := by
      have h5 : k * s ≤ 200000 * 100000 := Nat.mul_le_mul (by omega) (by have := HNS.out.2; omega)
      omega
    have hM0 : 0 ≤ M := by omega
    by_cases hlt : k < bg n s
    · have hlti : M < N := by
        have := (HB.out k).2 hlt
        have := HNS.out.1
        omega
      clear hM
      go_wp2
      exact ⟨⟨k + 1, by go_num, by omega, trivial⟩, by simp [intOf]; omega⟩
    · have hlti : ¬ M < N := by
        have h6 : ¬ k * s < n := fun h => hlt ((HB.out k).1 h)
        have := HNS.out.1
        omega
      have hke : k = bg n s := by omega
      clear hM
      subst hke
      go_wp2
      go_ret
      exact ⟨rfl, rfl⟩
/-- What an append amid the reference's Of leaves. -/
theorem OfM.app {w wr wa w4 w5 : World} {g0 g1 rl : Nat} {r v4 : Value} {A : List Nat} {m m2 : Nat} {p : Pn} (h : OfM w wr g0 g1 r (A ++ [m]) p) (hrl : rl = A.length + 1) (ha : Grow wr wa) (hap : Appd wa w4 3 1 r v4 (rl + 1) (numv (toI (A ++ [m])) ++ numv [(m2 : Int)])) (hb : Blk w5 g1 25 (pcells p v4)) (k : But (· = g1) w4 w5) : OfM w w5 g0 g1 v4 ((A ++ [m]) ++ [m2]) p := by
  have hl : (toI (A ++ [m])).length = rl := by rw [toI_len, List.length_append, List.length_singleton, hrl]
  rw [← hl] at hap
  obtain ⟨h5, h6⟩ := (h.own.grow ha).more hap (h.grow.trans ha)
  have hn : ∀ k, v4.ownBlock = some k → k ≠ g0 ∧ k ≠ g1 := fun j hj => by
    rcases hap.at' with e | e
    · exact h.nv j (by rw [← e]; exact hj)
    · rw [e] at hj
      have := Option.some.inj hj
      have := ha.size
      have := h.one.lt
      have := h.zero.lt
      exact ⟨by omega, by omega⟩
  refine ⟨hb, ((h.zero.but ha (fun h => h)).but hap.but (fun e => (h.nv g0 e).1 rfl)).but k h.ne.1, ?_, h6.then k (fun j hj e => by have := h.ne.2.2; omega), h.ne, hn⟩
  rw [show toI ((A ++ [m]) ++ [m2]) = toI (A ++ [m]) ++ [(m2 : Int)] by unfold toI; rw [List.map_append]; rfl]
  exact h5.but k (fun j hj e => (hn j hj).2 e)
set_option maxRecDepth 100000 in
theorem rof_not (w : World) (x y : Int) (h : ¬ (1 ≤ x ∧ x ≤ 4096 ∧ 1 ≤ y ∧ y ≤ 256)) : Calls Tryd.prog 21 #[.int .i64 x, .int .i64 y] w fun e w' => e = .returned (.tuple #[pval Pn.zero noS, .int .i64 1]) ∧ Grow w w' := by
  obtain ⟨g0, hg0⟩ : ∃ g, g = w.heap.size := ⟨_, rfl⟩
  obtain ⟨W0, hW0⟩ : ∃ W0, W0 = w.alloc (.cells (pcells Pn.zero noS).toArray 25) := ⟨_, rfl⟩
  have hT0 : Grow w W0 := by rw [hW0]; exact (But.refl _ w).alloc _
  have hB0 : Blk W0 g0 25 (pcells Pn.zero noS) := by rw [hW0]; exact Blk.new hg0.symm
  have HT0 := Hid.mk' hT0
  have HB0 := Hid.mk' hB0
  have HG := Hid.mk' hg0
  have HGE : Hid (w.heap.size ≤ g0) := Hid.mk' (by omega)
  have HW := Hid.mk' hW0
  clear hg0 hW0 hT0 hB0
  rcases (by omega : x < 1 ∨ (¬ x < 1 ∧ 4096 < x) ∨ (¬ x < 1 ∧ ¬ 4096 < x ∧ y < 1) ∨ (¬ x < 1 ∧ ¬ 4096 < x ∧ ¬ y < 1 ∧ 256 < y)) with h1 | ⟨h1, h2⟩ | ⟨h1, h2, h3⟩ | ⟨h1, h2, h3, h4⟩
  all_goals
    clear h
    go_enter Tryd.func21, Tryd.ntmps21
    go_upto_region 1 with (first
      | (refine wpList_runH rfl (exec_allocF rfl (zPl _)) ?_)
      | fail)
    rw [← HW.out, ← HG.out]
    clear HW HG
    go_upto_region 2 with fail
    go_wp2_with (first
      | (refine wpList_store_at rfl _ _ _ rfl g0 0 (pcells Pn.zero noS) rfl rfl 25 [] (pcells Pn.zero noS) [] (by simpa using HB0.out) rfl rfl iPl (pcells_one _ rfl) ?_; intro w3 hb3 hbut3; rw [List.nil_append, List.append_nil] at hb3)
      | fail)
    refine bodyPost_ret (results_plan_tmp rfl _ _ g0 _ _ _ _ rfl hb3 Tryd.underlying25 rfl iPl rfl) rfl ⟨rfl, ?_⟩
    exact HT0.out.then hbut3 (fun b hb e => by have := HGE.out; omega)
set_option maxRecDepth 100000 in
set_option maxHeartbeats 4000000 in
theorem rof_any (w : World) (n b : Nat) (h1 : 1 ≤ n) (h2 : n ≤ 4096) (h3 : 1 ≤ b) (h4 : b ≤ 256) : Calls Tryd.prog 21 #[.int .i64 (n : Int), .int .i64 (b : Int)] w (OfTo w n b) := by
  obtain ⟨g0, hg0⟩ : ∃ g, g = w.heap.size := ⟨_, rfl⟩
  obtain ⟨W0, hW0⟩ : ∃ W0, W0 = w.alloc (.cells (pcells Pn.zero noS).toArray 25) := ⟨_, rfl⟩
  have hT0 : Grow w W0 := by rw [hW0]; exact (But.refl _ w).alloc _
  have hB0 : Blk W0 g0 25 (pcells Pn.zero noS) := by rw [hW0]; exact Blk.new hg0.symm
  obtain ⟨g1, hg1⟩ : ∃ g, g = W0.heap.size := ⟨_, rfl⟩
  obtain ⟨W1, hW1⟩ : ∃ W1, W1 = W0.alloc (.cells (pcells Pn.zero noS).toArray 25) := ⟨_, rfl⟩
  have hT1 : Grow w W1 := by rw [hW1]; exact hT0.alloc _
  have hB1 : Blk W1 g1 25 (pcells Pn.zero noS) := by rw [hW1]; exact Blk.new hg1.symm
  have hB01 : Blk W1 g0 25 (pcells Pn.zero noS) := by rw [hW1]; exact hB0.but ((But.refl (fun _ => False) W0).alloc _) (fun h => h)
  have HNE : Hid (g0 ≠ g1 ∧ w.heap.size ≤ g0 ∧ w.heap.size ≤ g1) := by
    have := hB0.lt
    have := hT0.size
    exact ⟨by omega, by omega, by omega⟩
  have HT1 := Hid.mk' hT1
  have HB1 := Hid.mk' hB1
  have HB01 := Hid.mk' hB01
  have HG0 := Hid.mk' hg0
  have HG1 := Hid.mk' hg1
  have HW0 := Hid.mk' hW0
  have HW1 := Hid.mk' hW1
  obtain ⟨c, hc⟩ : ∃ c, c = bg n 16 := ⟨_, rfl⟩
  have hc1 : 1 ≤ c := by rw [hc]; unfold bg; omega
  have hc2 : c ≤ 256 := by rw [hc]; unfold bg; omega
  obtain ⟨L, hL⟩ : ∃ L, L = lvs c := ⟨_, rfl⟩
  have hLL := lvs_le hc1 hc2
  rw [← hL] at hLL
  obtain ⟨nd, hnd⟩ : ∃ nd, nd = L.sum := ⟨_, rfl⟩
  obtain ⟨q, hq⟩ : ∃ q : Nat, q = 12 + 4 * b := ⟨_, rfl⟩
  obtain ⟨hs, hhs⟩ : ∃ hs, hs = bg q 256 := ⟨_, rfl⟩
  have hsb : hs ≤ 5 := by rw [hhs]; unfold bg; omega
  obtain ⟨hd, hhd⟩ : ∃ hd, hd = n + c + nd := ⟨_, rfl⟩
  have HPL : Hid (plan n b = ⟨n, b, c, toI L, nd, hd, hs, (hd + hs : Nat), (hd + hs + b : Nat), (hd + hs + b + b : Nat)⟩) := by
    subst hhd hhs hq hnd hL hc
    rfl
  have HBG1 := Hid.mk' (fun w => rbegun_any w n 16 (by omega) (by decide) (by decide))
  have HBG2 := Hid.mk' (fun w => rbegun_any w q 256 (by omega) (by decide) (by decide))
  have HBG3 := Hid.mk' (fun w => rbegun_any w c 8 (by omega) (by decide) (by decide))
  obtain ⟨m0, hm0⟩ : ∃ m0, m0 = bg c 8 := ⟨_, rfl⟩
  rw [← hm0] at HBG3
  have HLE : Hid (L = lvN 3 m0 ∧ 1 ≤ m0 ∧ m0 ≤ 8 ^ 3) := Hid.mk' ⟨by rw [hL, hm0]; rfl, by rw [hm0]; exact bg_pos hc1, by rw [hm0]; exact bg8 (k := 3) (by omega)⟩
  rw [← hc] at HBG1
  rw [← hhs] at HBG2
  have HLL := Hid.mk' hLL
  have HND := Hid.mk' hnd
  have en : (n : Int) ≤ 4096 := by omega
  have en1 : (1 : Int) ≤ (n : Int) := by omega
  have eb : (b : Int) ≤ 256 := by omega
  have eb1 : (1 : Int) ≤ (b : Int) := by omega
  have n1 : ¬ (n : Int) < 1 := by omega
  have n2 : ¬ (4096 : Int) < (n : Int) := by omega
  have b1 : ¬ (b : Int) < 1 := by omega
  have b2 : ¬ (256 : Int) < (b : Int) := by omega
  have ec : (c : Int) ≤ 256 := by omega
  have hds : hd ≤ 4389 := by have := hLL.2.2.1; omega
  have HQ : Hid ((12 : Int) + 4 * (b : Int) = (q : Int)) := Hid.mk' (by omega)
  have HSM : Hid ((n : Int) + (c : Int) + (nd : Int) = (hd : Int) ∧ (hd : Int) + (hs : Int) = ((hd + hs : Nat) : Int) ∧ ((hd + hs : Nat) : Int) + (b : Int) = ((hd + hs + b : Nat) : Int) ∧ ((hd + hs + b : Nat) : Int) + (b : Int) = ((hd + hs + b + b : Nat) : Int)) := ⟨by omega, by omega, by omega, by omega⟩
  have HBD : Hid ((nd : Int) ≤ 37 ∧ (hd : Int) ≤ 4389 ∧ (hs : Int) ≤ 5) := ⟨by have := hLL.2.2.1; omega, by omega, by omega⟩
  clear h1 h2 h3 h4 hg0 hg1 hW0 hW1 hT0 hT1 hB0 hB1 hB01 hc hc1 hc2 hL hLL hnd hq hhs hsb hhd hds hm0
  go_enter Tryd.func21, Tryd.ntmps21
  go_upto_region 1 with (first
    | (refine wpList_runH rfl (exec_allocF rfl (zPl _)) ?_)
    | fail)
  rw [← HW0.out, ← HG0.out]
  clear HW0 HG0
  go_upto_region 4 with (first
    | (refine wpList_runH rfl (exec_allocF rfl (zPl _)) ?_; rw [← HW1.out, ← HG1.out])
    | fail)
  clear HW1 HG1
  have HX1 := HB1
  have HZ1 := HB01
  clear HB1 HB01
  go_upto_region 5 with (first
    | (refine wpList_store1 (g := g1) (i := 0) (v := .int .i64 (n : Int)) rfl iIn rfl rfl rfl rfl HX1.out (show 0 < 10 by decide) ?_; intro w2 hb hbut)
    | fail)
  have HX2 : Hid (Blk w2 g1 25 (pcells ⟨n, 0, 0, [], 0, 0, 0, 0, 0, 0⟩ noS)) := hb
  have HZ2 := Hid.mk' (HZ1.out.but hbut HNE.out.1)
  have HT2 : Hid (Grow w w2) := HT1.out.then hbut (fun j hj e => by have := HNE.out.2.2; omega)
  clear hb hbut HX1 HZ1 HT1
  go_upto_region 6 with (first
    | (refine wpList_store1 (g := g1) (i := 1) (v := .int .i64 (b : Int)) rfl iIn rfl rfl rfl rfl HX2.out (show 1 < 10 by decide) ?_; intro w3 hb hbut)
    | fail)
  have HX3 : Hid (Blk w3 g1 25 (pcells ⟨n, b, 0, [], 0, 0, 0, 0, 0, 0⟩ noS)) := hb
  have HZ3 := Hid.mk' (HZ2.out.but hbut HNE.out.1)
  have HT3 : Hid (Grow w w3) := HT2.out.then hbut (fun j hj e => by have := HNE.out.2.2; omega)
  clear hb hbut HX2 HZ2 HT2
  go_wp2_with fail
  refine Calls.mono (HBG1.out _) ?_
  rintro e w' ⟨rfl, hw⟩
  have h3 := hw.symm
  subst h3
  clear hw HBG1
  go_upto_region 7 with (first
    | (refine wpList_store1 (g := g1) (i := 2) (v := .int .i64 (c : Int)) rfl iIn rfl rfl rfl rfl HX3.out (show 2 < 10 by decide) ?_; intro w4 hb hbut)
    | fail)
  have HX4 : Hid (Blk w4 g1 25 (pcells ⟨n, b, c, [], 0, 0, 0, 0, 0, 0⟩ noS)) := hb
  have HZ4 := Hid.mk' (HZ3.out.but hbut HNE.out.1)
  have HT4 : Hid (Grow w w4) := HT3.out.then hbut (fun j hj e => by have := HNE.out.2.2; omega)
  clear hb hbut HX3 HZ3 HT3
  have c2 : w4.cell? ⟨g1, 2, none⟩ = some (.int .i64 (c : Int)) := HX4.out.cell 2
  go_wp2_with fail
  refine Calls.mono (HBG3.out _) ?_
  rintro e w' ⟨rfl, hw⟩
  have h3 := hw.symm
  subst h3
  clear hw HBG3 c2
  obtain ⟨w5, hw5⟩ : ∃ w5, w5 = w4.alloc (.cells #[.int .i64 (m0 : Int)] 3) := ⟨_, rfl⟩
  have HG5 : Hid (Grow w4 w5) := Hid.mk' (by rw [hw5]; exact (But.refl _ w4).alloc _)
  have HO5 : Hid (Own w w5 (.slice (some ⟨w4.heap.size, 0, none⟩) 1 1) (toI [m0])) := Hid.mk' (by
    rw [hw5]
    exact ⟨(RowOf.lit (Fr := fun _ => True) (n := 1) (Blk.new (L := numv [(m0 : Int)]) rfl) rfl (by decide) trivial).own, fun k hk => by
      have h9 : some w4.heap.size = some k := hk
      have := Option.some.inj h9
      have := HT4.out.size
      omega⟩)
  have HN5 : Hid (∀ k, (Value.slice (some ⟨w4.heap.size, 0, none⟩) 1 1).ownBlock = some k → k ≠ g0 ∧ k ≠ g1) := fun k hk => by
    have h9 : some w4.heap.size = some k := hk
    have := Option.some.inj h9
    have := HX4.out.lt
    have := HZ4.out.lt
    exact ⟨by omega, by omega⟩
  have HX5 := Hid.mk' (HX4.out.but HG5.out (fun h => h))
  have HZ5 := Hid.mk' (HZ4.out.but HG5.out (fun h => h))
  have HT5 := Hid.mk' (HT4.out.trans HG5.out)
  have HW5 := Hid.mk' hw5
  clear hw5
  go_upto_region 9 with (first
    | (refine wpList_runH rfl (exec_row1 (v := .int .i64 (m0 : Int)) Tryd.underlying23 infNum (by decide) (by decide) rfl rfl rfl) ?_; rw [show w4.alloc (.cells (Value.int .i64 (m0 : Int)).cells 3) = w5 from HW5.out.symm])
    | (refine wpList_store1 (g := g1) (i := 3) (v := .slice (some ⟨w4.heap.size, 0, none⟩) 1 1) rfl iSl rfl rfl rfl rfl HX5.out (show 3 < 10 by decide) ?_; intro w6 hb hbut)
    | fail)
  obtain ⟨r, hr⟩ : ∃ r : Value, r = .slice (some ⟨w4.heap.size, 0, none⟩) 1 1 := ⟨_, rfl⟩
  have HI6 : Hid (OfM w w6 g0 g1 (.slice (some ⟨w4.heap.size, 0, none⟩) 1 1) [m0] ⟨n, b, c, [], 0, 0, 0, 0, 0, 0⟩) :=
    ⟨hb, HZ5.out.but hbut HNE.out.1, HO5.out.but hbut (fun j hj e => (HN5.out j hj).2 e), HT5.out.then hbut (fun j hj e => by have := HNE.out.2.2; omega), HNE.out, HN5.out⟩
  clear hb hbut hr HX4 HZ4 HT4 HX5 HZ5 HT5 HO5 HW5 HG5
  go_wp2_with (first
    | (refine wpList_store1 (g := g1) (i := 4) (v := .int .i64 (m0 : Int)) rfl iIn rfl rfl rfl rfl HI6.out.one (show 4 < 10 by decide) ?_; intro w7 hb hbut)
    | fail)
  have HI7 := Hid.mk' (HI6.out.put (p' := ⟨n, b, c, [], ([m0].sum : Nat), 0, 0, 0, 0, 0⟩) (by rw [show [m0].sum = m0 by simp]; exact hb) hbut)
  clear hb hbut HI6
  refine act_down ?_
  intro K hK
  go_simp
  refine hK _ ?_
  clear hK K
  go_loopw [7] (fun mv wr => ∃ (m k : Nat) (A : List Nat) (r : Value), mv = .int .i64 (m : Int) ∧ k ≤ 3 ∧ 1 ≤ m ∧ m ≤ 8 ^ k ∧ A.length ≤ 3 - k ∧ L = A ++ lvN k m ∧ OfM w wr g0 g1 r (A ++ [m]) ⟨n, b, c, [], ((A ++ [m]).sum : Nat), 0, 0, 0, 0, 0⟩) (fun mv _ => (intOf mv).toNat)
  case atStart => exact ⟨m0, 3, [], _, rfl, by decide, HLE.out.2.1, HLE.out.2.2, by decide, HLE.out.1, HI7.out⟩
  case round =>
    clear HI7 HLE
    obtain ⟨m, k, A, r, rfl, hk, hm1, hm8, hA, hLL2, hI⟩ := hrel
    have HI := Hid.mk' hI
    have HM := Hid.mk' (And.intro hm1 hm8)
    have HL := Hid.mk' hLL2
    have HK := Hid.mk' hk
    have HA := Hid.mk' hA
    have hmu : m ≤ 512 := Nat.le_trans hm8 (show 8 ^ k ≤ 8 ^ 3 from Nat.pow_le_pow_right (by decide) hk)
    have hmi : (m : Int) ≤ 512 := by omega
    obtain ⟨ra, rc, hre⟩ := hI.own.sl
    rw [toI_len, List.length_append, List.length_singleton] at hre
    obtain ⟨rl, hrl⟩ : ∃ rl, rl = A.length + 1 := ⟨_, rfl⟩
    rw [← hrl] at hre
    have HRL := Hid.mk' hrl
    clear hI hm8 hk hA hLL2 hrl
    subst hre
    by_cases hgt : m = 1
    · have hgb : ((m : Int) != 1) = false := by rw [hgt]; rfl
      have hLE : L = A ++ [m] := by rw [HL.out, lvN_one (by omega)]
      have hI := HI.out
      rw [← hLE, ← HND.out] at hI
      have HI := Hid.mk' hI
      have hlt : True := trivial
      have hie : True := trivial
      have hil : True := trivial
      clear hgt hLE hmu
      have d0 : wr.cell? ⟨g1, 0, none⟩ = some (.int .i64 (n : Int)) := hI.one.cell 0
      have d2 : wr.cell? ⟨g1, 2, none⟩ = some (.int .i64 (c : Int)) := hI.one.cell 2
      have d4 : wr.cell? ⟨g1, 4, none⟩ = some (.int .i64 (nd : Int)) := hI.one.cell 4
      obtain ⟨q1, q2, q3, q4⟩ := HSM.out
      obtain ⟨q5, q6, q7⟩ := HBD.out
      obtain ⟨s7, hs7⟩ : ∃ s : Int, s = ((hd + hs : Nat) : Int) := ⟨_, rfl⟩
      obtain ⟨s8, hs8⟩ : ∃ s : Int, s = ((hd + hs + b : Nat) : Int) := ⟨_, rfl⟩
      obtain ⟨s9, hs9⟩ : ∃ s : Int, s = ((hd + hs + b + b : Nat) : Int) := ⟨_, rfl⟩
      rw [← hs7] at q2 q3
      rw [← hs8] at q3 q4
      rw [← hs9] at q4
      have HPE : Hid (plan n b = ⟨n, b, c, toI L, nd, hd, hs, s7, s8, s9⟩) := by rw [hs7, hs8, hs9]; exact HPL.out
      have hQ := HQ.out
      have q8 : s7 ≤ 5000 := by omega
      have q9 : s8 ≤ 5500 := by omega
      clear hI hie hil hs7 hs8 hs9 HSM HBD HPL HQ hlt
      go_upto_region 15 with (first
        | (refine wpList_store1 (g := g1) (i := 5) (v := .int .i64 (hd : Int)) rfl iIn rfl rfl rfl rfl HI.out.one (show 5 < 10 by decide) ?_; intro w6 hb6 hbut6)
        | fail)
      have H6 := Hid.mk' (HI.out.put (p' := ⟨n, b, c, [], nd, hd, 0, 0, 0, 0⟩) hb6 hbut6)
      clear hb6 hbut6 d0 d2 d4 HI
      go_wp2_with fail
      refine Calls.mono (HBG2.out _) ?_
      rintro e w' ⟨rfl, hw⟩
      have h3 := hw.symm
      subst h3
      clear hw HBG2
      go_upto_region 16 with (first
        | (refine wpList_store1 (g := g1) (i := 6) (v := .int .i64 (hs : Int)) rfl iIn rfl rfl rfl rfl H6.out.one (show 6 < 10 by decide) ?_; intro w7 hb7 hbut7)
        | fail)
      have H7 := Hid.mk' (H6.out.put (p' := ⟨n, b, c, [], nd, hd, hs, 0, 0, 0⟩) hb7 hbut7)
      have d5 : w7.cell? ⟨g1, 5, none⟩ = some (.int .i64 (hd : Int)) := H7.out.one.cell 5
      have d6 : w7.cell? ⟨g1, 6, none⟩ = some (.int .i64 (hs : Int)) := H7.out.one.cell 6
      clear hb7 hbut7 H6
      go_upto_region 17 with (first
        | (refine wpList_store1 (g := g1) (i := 7) (v := .int .i64 s7) rfl iIn rfl rfl rfl rfl H7.out.one (show 7 < 10 by decide) ?_; intro w8 hb8 hbut8)
        | fail)
      have H8 := Hid.mk' (H7.out.put (p' := ⟨n, b, c, [], nd, hd, hs, s7, 0, 0⟩) hb8 hbut8)
      have d7 : w8.cell? ⟨g1, 7, none⟩ = some (.int .i64 s7) := H8.out.one.cell 7
      clear hb8 hbut8 H7 d5 d6
      go_upto_region 18 with (first
        | (refine wpList_store1 (g := g1) (i := 8) (v := .int .i64 s8) rfl iIn rfl rfl rfl rfl H8.out.one (show 8 < 10 by decide) ?_; intro w9 hb9 hbut9)
        | fail)
      have H9 := Hid.mk' (H8.out.put (p' := ⟨n, b, c, [], nd, hd, hs, s7, s8, 0⟩) hb9 hbut9)
      have d8 : w9.cell? ⟨g1, 8, none⟩ = some (.int .i64 s8) := H9.out.one.cell 8
      clear hb9 hbut9 H8 d7
      go_upto_region 19 with (first
        | (refine wpList_store1 (g := g1) (i := 9) (v := .int .i64 s9) rfl iIn rfl rfl rfl rfl H9.out.one (show 9 < 10 by decide) ?_; intro w10 hb10 hbut10)
        | fail)
      have H10 := Hid.mk' (H9.out.put (p' := ⟨n, b, c, [], nd, hd, hs, s7, s8, s9⟩) hb10 hbut10)
      have HCW : Hid (∀ j u, (pcells ⟨n, b, c, [], nd, hd, hs, s7, s8, s9⟩ (.slice ra rl rc))[j]? = some u → w10.cell? ((⟨g1, 0, none⟩ : Addr).add j) = some u) := fun j u hj => by
        rw [addr_add, Nat.zero_add, H10.out.one.cell j]; exact hj
      clear hb10 hbut10 H9 d8
      go_wp2_with (first
        | (refine wpList_load_cells rfl _ _ rfl ⟨g1, 0, none⟩ rfl (pcells ⟨n, b, c, [], nd, hd, hs, s7, s8, s9⟩ (.slice ra rl rc)) _ HCW.out Tryd.underlying25 rfl iPl ?_)
        | (refine wpList_store_at rfl _ _ _ rfl g0 0 (pcells ⟨n, b, c, [], nd, hd, hs, s7, s8, s9⟩ (.slice ra rl rc)) rfl rfl 25 [] (pcells Pn.zero noS) [] (by simpa using H10.out.zero) rfl rfl iPl (pcells_one _ rfl) ?_; intro w11 hb11 hbut11; rw [List.nil_append, List.append_nil] at hb11)
        | fail)
      obtain ⟨ho, hg⟩ := H10.out.last hbut11
      refine bodyPost_ret (results_plan_tmp rfl _ _ g0 _ _ _ _ rfl hb11 Tryd.underlying25 rfl iPl rfl) rfl ⟨.slice ra rl rc, ?_, ?_, hg⟩
      · rw [HPE.out]; rfl
      · rw [HPE.out]; exact ho
    · have hgb : ((m : Int) != 1) = true := by
        have : (m : Int) ≠ 1 := by omega
        simpa using this
      obtain ⟨k, rfl⟩ : ∃ j, k = j + 1 := by
        cases k with
        | zero => have := HM.out.2; simp at this; omega
        | succ j => exact ⟨j, rfl⟩
      have HB := Hid.mk' (rbegun_any wr m 8 (by omega) (by decide) (by decide))
      obtain ⟨m2, hm2⟩ : ∃ m2, m2 = bg m 8 := ⟨_, rfl⟩
      rw [← hm2] at HB
      have HM2 : Hid (1 ≤ m2 ∧ m2 ≤ 8 ^ k ∧ m2 < m) := Hid.mk' (by rw [hm2]; exact ⟨bg_pos hm1, bg8 HM.out.2, by unfold bg; omega⟩)
      have HL2 : Hid (L = (A ++ [m]) ++ lvN k m2) := Hid.mk' (by rw [HL.out, lvN_more (by omega), List.append_assoc, hm2]; rfl)
      obtain ⟨sm, hsm⟩ : ∃ sm, sm = (A ++ [m]).sum := ⟨_, rfl⟩
      have hs37 : sm + m2 ≤ 37 := by
        have h5 := HLL.out.2.2.1
        have h6 : m2 ≤ (lvN k m2).sum := by
          cases k with
          | zero => show m2 ≤ [m2].sum; simp
          | succ j =>
            unfold lvN
            split
            · simp
            · rw [List.sum_cons]; omega
        rw [HL2.out, List.sum_append, ← hsm] at h5
        omega
      have esm : (sm : Int) + (m2 : Int) = ((sm + m2 : Nat) : Int) := by omega
      have hsu1 : ((sm + m2 : Nat) : Int) ≤ 37 := by omega
      have HSS : Hid (((A ++ [m]) ++ [m2]).sum = sm + m2) := Hid.mk' (by rw [List.sum_append, ← hsm]; simp)
      rw [← hsm] at HI
      obtain ⟨su, hsu2⟩ : ∃ su : Int, su = ((sm + m2 : Nat) : Int) := ⟨_, rfl⟩
      rw [← hsu2] at esm hsu1
      have HSU := Hid.mk' hsu2
      have c3 : wr.cell? ⟨g1, 3, none⟩ = some (.slice ra rl rc) := HI.out.one.cell 3
      have HAL : Hid (Grow wr (wr.alloc (.cells #[.int .i64 (m2 : Int)] 3))) := (But.refl _ wr).alloc _
      have HBL : Hid (Blk (wr.alloc (.cells #[.int .i64 (m2 : Int)] 3)) wr.heap.size 3 (numv [(m2 : Int)])) := Blk.new (L := numv [(m2 : Int)]) rfl
      have HRW : Hid (wr.ownsRow 0 3 1 (.slice ra rl rc) rl (numv (toI (A ++ [m])))) := Hid.mk' (by
        have h := HI.out.own.row
        rw [toI_len, List.length_append, List.length_singleton, ← HRL.out] at h
        exact h)
      have hm2i : (m2 : Int) ≤ 512 := by have := HM2.out.2.2; omega
      clear hm2 hm1 hmu HM HL hsm hs37 hsu2 hgt
      go_wp2_with fail
      refine Calls.mono HB.out ?_
      rintro e w' ⟨rfl, hw⟩
      have h3 := hw.symm
      subst h3
      clear hw HB
      go_upto_region 13 with (first
        | (refine wpList_runH rfl (exec_row1 (v := .int .i64 (m2 : Int)) Tryd.underlying23 infNum (by decide) (by decide) rfl rfl rfl) ?_)
        | (refine wpList_someH rfl (exec_append (v := .slice ra rl rc) (n := rl) (xs := numv (toI (A ++ [m]))) (news := numv [(m2 : Int)]) Tryd.underlying23 infNum rfl (by decide) rfl rfl (ownsRow_grow HRW.out HAL.out) rfl rfl (fun j u hj => HBL.out.cells0 j u hj) (fun u hu => by rw [show u = .int .i64 (m2 : Int) by simpa [numv] using hu]; rfl) (by have := HRL.out; have := HA.out; omega) (by decide)) ?_; intro v4 w4 hap
           obtain ⟨va, vc, e4⟩ := own_sl hap.own
           subst e4
           have hb4 : Blk w4 g1 25 (pcells ⟨n, b, c, [], sm, 0, 0, 0, 0, 0⟩ (.slice ra rl rc)) := (HI.out.one.but HAL.out (fun h => h)).but hap.but (fun e => (HI.out.nv g1 e).2 rfl))
        | (refine wpList_store1 (g := g1) (i := 3) rfl iSl rfl rfl rfl rfl hb4 (show 3 < 10 by decide) ?_; intro w5 hb5 hbut5)
        | fail)
      have HI5 := Hid.mk' (HI.out.app HRL.out HAL.out hap hb5 hbut5)
      have c4 : w5.cell? ⟨g1, 4, none⟩ = some (.int .i64 (sm : Int)) := HI5.out.one.cell 4
      clear hap hb4 hb5 hbut5 c3 HAL HBL HRW HI
      go_wp2_with (first
        | (refine wpList_store1 (g := g1) (i := 4) (v := .int .i64 su) rfl iIn rfl rfl rfl rfl HI5.out.one (show 4 < 10 by decide) ?_; intro w6 hb6 hbut6)
        | fail)
      refine ⟨⟨.int .i64 (m2 : Int), _, _, _, _, _, _, _, _, _, _, _, _, _, _, _, ⟨m2, k, A ++ [m], _, rfl, by have := HK.out; omega, HM2.out.1, HM2.out.2.1, by rw [List.length_append, List.length_singleton]; have := HA.out; have := HK.out; omega, HL2.out, HI5.out.put (p' := ⟨n, b, c, [], (((A ++ [m]) ++ [m2]).sum : Nat), 0, 0, 0, 0, 0⟩) (by rw [HSS.out, ← HSU.out]; exact hb6) hbut6⟩, rfl⟩, ?_⟩
      show (m2 : Int).toNat < (m : Int).toNat
      have := HM2.out.2.2
      omega
end Go.Proofs.YtmlladpmecclbaaDoor
/- tree's laws: made. -/
namespace Go.Proofs.YtmlladpmecclbaaDoor
open Go.RowKit

theorem Nb.mono {base base' : Nat} {w : World} {v : Value} {n : Nat} {G : Nat → Nat} {T : Nat → List Nat} (h : Nb base w v n G T) (hb : base' ≤ base) : Nb base' w v n G T :=
  ⟨h.ex, fun k hk => ⟨Nat.le_trans hb (h.rnew k hk).1, (h.rnew k hk).2⟩, fun i hi => Nat.le_trans hb (h.gnew i hi), h.inj⟩
/-- What made leaves: a plan, and a row of blocks. -/
structure MdTo (w : World) (n : Nat) (e : Ending) (w' : World) : Prop where
  ex : ∃ pv v G T, e = .returned (.tuple #[pval (plan n 4) pv, v]) ∧ Own w w' pv (plan n 4).levels ∧ Nb w.heap.size w' v (bg n 16) G T
  grow : Grow w w'
theorem wrap8 (k : Nat) : IntKind.u8.wrap (k : Int) = ((k % 256 : Nat) : Int) := by show (k : Int) % 256 = _; omega
theorem xorb (a b : Nat) (ha : a < 256) (hb : b < 256) : a ^^^ b < 256 := Nat.xor_lt_two_pow (n := 8) ha hb
set_option maxRecDepth 100000 in
set_option maxHeartbeats 8000000 in
theorem made_tr {w : World} {x : Int} {fv : Value} {fill : List Nat} (hf : Bs w fv fill) (hfl : fill.length ≤ 140737488355328) :
    Calls Tryd.prog 6 #[.int .i64 x, fv] w (MdTo w (1 + (x % 300).toNat)) := by
  obtain ⟨n, hn⟩ : ∃ n, n = 1 + (x % 300).toNat := ⟨_, rfl⟩
  rw [← hn]
  have hn1 : 1 ≤ n := by omega
  have hn2 : n ≤ 300 := by omega
  have hc1 : bg n 16 ≤ 19 := by unfold bg; omega
  obtain ⟨g0, hg0⟩ : ∃ g, g = w.heap.size := ⟨_, rfl⟩
  obtain ⟨W, hW⟩ : ∃ W, W = w.alloc (.cells (pcells Pn.zero noS).toArray 25) := ⟨_, rfl⟩
  have hT0 : Grow w W := by rw [hW]; exact (But.refl _ w).alloc _
  have HB0 : Hid (Blk W g0 25 (pcells Pn.zero noS)) := by show Blk _ _ _ _; rw [hW]; exact Blk.new hg0.symm
  have hpk := pick_any x 300 W (by decide) (by decide)
  obtain ⟨X, hX⟩ : ∃ X, X = x % 300 := ⟨_, rfl⟩
  rw [← hX] at hpk hn
  have HPK := Hid.mk' hpk
  have hX0 : 0 ≤ X := by omega
  have hX1 : X < 300 := by omega
  have hXn : 1 + X = (n : Int) := by omega
  have HOF : Hid (Calls Tryd.prog 21 #[.int .i64 (n : Int), .int .i64 4] W (OfTo W n 4)) := rof_any W n 4 hn1 (by omega) (by decide) (by decide)
  obtain ⟨P, hP⟩ : ∃ P, P = plan n 4 := ⟨_, rfl⟩
  unfold OfTo at HOF
  rw [← hP] at HOF
  have HP := Hid.mk' hP
  have hpc : P.counters = ((bg n 16 : Nat) : Int) := by rw [hP]; rfl
  obtain ⟨c, hc⟩ : ∃ c, c = bg n 16 := ⟨_, rfl⟩
  rw [← hc] at hpc hc1
  have HC := Hid.mk' hc
  have HPC := Hid.mk' hpc
  have HW := Hid.mk' hW
  have HG0 := Hid.mk' hg0
  have HT0 := Hid.mk' hT0
  have HF := Hid.mk' hf
  obtain ⟨fa, fn, fc, hfe⟩ : ∃ fa fn fc, fv = .slice fa fn fc := hf.sl
  have hfn : fn = fill.length := by
    obtain ⟨a, c, e, _⟩ := hf.gen
    rw [hfe] at e
    simp only [Value.slice.injEq] at e
    exact e.2.1
  subst hfe
  have HFN := Hid.mk' hfn
  have HNN : Hid (1 ≤ n ∧ n ≤ 300) := ⟨hn1, hn2⟩
  obtain ⟨i0, hi, hz0, hz1, hz2⟩ := info_parts u8info
  have hfnl : fn ≤ 140737488355328 := by omega
  clear hn hg0 hW hT0 hpk hX hP hpc hc hf hfl hfn hn1 hn2
  go_enter Tryd.func6, Tryd.ntmps6
  go_upto_region 1 with (first
    | (refine wpList_runH rfl (exec_allocF rfl (zPl _)) ?_)
    | fail)
  rw [← HW.out, ← HG0.out]
  clear HW
  go_wp2_with fail
  refine Calls.mono HPK.out ?_
  rintro e w' ⟨rfl, hw⟩
  have h3 := hw.symm
  subst h3
  clear hw HPK
  go_wp2_with fail
  refine Calls.mono HOF.out ?_
  rintro e w1 ⟨v, rfl, ho, hg⟩
  obtain ⟨va, vc, hve⟩ := ho.sl
  generalize P.levels.length = ln at hve
  subst hve
  have HO := Hid.mk' ho
  have HG := Hid.mk' hg
  clear hg ho HOF
  go_upto_region 2 with (first
    | (refine wpList_runH rfl (exec_allocF rfl (zPl _)) ?_)
    | (refine wpList_store_at rfl _ _ _ rfl w1.heap.size 0 (pcells P (.slice va ln vc)) rfl rfl 25 [] (pcells Pn.zero noS) [] (var_new w1) rfl rfl iPl (pcells_one _ rfl) ?_; intro w2 hb2 hbut2; rw [List.nil_append, List.append_nil] at hb2)
    | fail)
  obtain ⟨g, hgg⟩ : ∃ g, g = w1.heap.size := ⟨_, rfl⟩
  have hg2 := var_grow hbut2
  rw [← hgg] at hb2 ⊢
  have HB2 := Hid.mk' hb2
  have HO2 := Hid.mk' (HO.out.grow hg2)
  have HG2 := Hid.mk' (HG.out.trans hg2)
  have HB02 := Hid.mk' (HB0.out.but HG2.out (fun h => h))
  have H0 : Hid (Nb w2.heap.size w2 (.slice none 0 0) 0 (fun _ => 0) (fun _ => [])) := Nb.nil _ _ _ _
  clear hgg hb2 hbut2 hg2 HO HG
  go_upto_region 4 with fail
  go_loopw [8, 9] (fun xv iv wr => ∃ (k : Nat) (r : Value), r = xv ∧ k ≤ c ∧ iv = .int .i64 k ∧ ∃ G T, Nb w2.heap.size wr r k G T ∧ Grow w2 wr) (fun _ iv _ => c - (intOf iv).toNat)
  case atStart => exact ⟨0, _, rfl, Nat.zero_le _, rfl, _, _, H0.out, But.refl _ _⟩
  case round =>
    obtain ⟨k, r, hr, hk, rfl, G, T, hnb, hgr⟩ := hrel
    subst hr
    have HNB := Hid.mk' hnb
    have HGR := Hid.mk' hgr
    have cc : wr.cell? ⟨g, 2, none⟩ = some (.int .i64 (c : Int)) := by
      rw [← HPC.out]; exact (HB2.out.but hgr (fun h => h)).cell 2
    clear H0
    by_cases hlt : k < c
    · obtain ⟨ra, rc, hre⟩ := hnb.len
      subst hre
      clear hnb hgr
      go_upto_region 8 with (first
        | (at_make; refine wpList_make_full _ rfl _ _ 22 rfl wr.heap.size 5 i0 (.int .u8 0) 1 Tryd.underlying22 hi hz0 hz1 .i64 .i64 _ _ 256 rfl rfl (by go_num) (by go_num) (by rw [hz2]; omega) (by unfold maxLen; omega) (Nat.le_refl _) ?_; intro w3 hown hgrow)
        | fail)
      obtain ⟨gb, hgb⟩ : ∃ gb, gb = wr.heap.size := ⟨_, rfl⟩
      have hT3 : Grow wr w3 := (But.refl _ _).grown hgrow (by simp)
      have hb3 : Blk w3 gb 5 (u8s z256) := by
        have := own_block hown
        rw [made_zero] at this
        rw [hgb]
        exact this
      rw [← hgb]
      have HGB := Hid.mk' hgb
      have HT3 := Hid.mk' hT3
      have HB3 := Hid.mk' hb3
      have HF3 : Hid (∀ w', But (· = gb) w3 w' → Bs w' (.slice fa fn fc) fill) := fun w' kk => by
        have h1 := HF.out.but (((HT0.out.trans HG2.out).trans HGR.out).trans hT3) (fun _ _ _ h => h)
        refine HF.out.but ((((HT0.out.trans HG2.out).trans HGR.out).trans hT3).then kk (fun i hi e => ?_)) (fun _ _ _ h => h)
        have q1 := ((HT0.out.trans HG2.out).trans HGR.out).size
        omega
      clear hT3 hb3 hown hgrow hgb cc
      obtain ⟨wo, hwo⟩ : ∃ wo, wo = wr := ⟨_, rfl⟩
      subst hwo
      go_loopw [11] (fun jv wr => ∃ (j : Nat) (zs : List Nat), j ≤ 256 ∧ jv = .int .i64 j ∧ zs.length = 256 ∧ (∀ z ∈ zs, z < 256) ∧ Blk wr gb 5 (u8s zs) ∧ But (· = gb) w3 wr) (fun jv _ => 256 - (intOf jv).toNat)
      case atStart => exact ⟨0, z256, by omega, rfl, z256_len, z256_lt, HB3.out, But.refl _ _⟩
      case round =>
        obtain ⟨j, zs, hj, rfl, hzl, hzt, hbz, hbt⟩ := hrel
        have HZL := Hid.mk' hzl
        have HZT := Hid.mk' hzt
        have HBZ := Hid.mk' hbz
        have HBT := Hid.mk' hbt
        by_cases hj2 : j < fn ∧ j < 256
        · obtain ⟨hj3, hj4⟩ := hj2
          have hff := HF3.out wr hbt
          obtain ⟨hlt8, -, ⟨h0, -⟩ | ⟨-, fb, fo, fcap, hfe, -, hfb, hfc⟩⟩ := hff
          · have := HFN.out; rw [h0] at this; simp at this; omega
          · simp only [Value.slice.injEq] at hfe
            obtain ⟨rfl, -, rfl⟩ := hfe
            have cf := hfc j (by rw [← HFN.out]; exact hj3)
            obtain ⟨a, ha⟩ : ∃ a, a = fill.getD j 0 := ⟨_, rfl⟩
            have ha8 : a < 256 := by rw [ha]; exact hlt8 _ (getD_mem _ _ (by rw [← HFN.out]; exact hj3))
            rw [← ha] at cf
            have hk8 := wrap8 k
            obtain ⟨q, hq⟩ : ∃ q, q = k % 256 := ⟨_, rfl⟩
            rw [← hq] at hk8
            have hq8 : q < 256 := by omega
            have hxy : bits .xor .u8 (a : Int) (q : Int) = ((a ^^^ q : Nat) : Int) := u8_xor_nat a q ha8 hq8
            have hz8 := xorb a q ha8 hq8
            obtain ⟨y, hy⟩ : ∃ y, y = a ^^^ q := ⟨_, rfl⟩
            rw [← hy] at hxy hz8
            have cz : wr.cell? ⟨gb, j, none⟩ = some (.int .u8 (zs.getD j 0 : Nat)) := by rw [hbz.cell, u8s_get _ _ (by omega)]
            have fz := hbz.free j
            have hkq : (k : Int) % 256 = (q : Int) := by omega
            have HZ8 := Hid.mk' hz8
            clear ha hy hfc hlt8 hfb hbz hbt hzl hzt hq
            go_wp2
            refine ⟨⟨j + 1, zs.set j y, by omega, by go_num, by rw [List.length_set]; exact HZL.out, fun z hz => ?_, ?_, ?_⟩, by simp [intOf]; omega⟩
            · rcases List.mem_or_eq_of_mem_set hz with hz | hz
              · exact HZT.out z hz
              · rw [hz]; exact HZ8.out
            · have := HBZ.out.set j (.int .u8 (y : Int))
              rw [u8s_set] at this
              exact this
            · exact HBT.out.trans (But.set1 wr gb j _)
        · have hkb : But (· = gb) wo wr := (HT3.out.mono (fun _ _ h => h.elim)).trans hbt
          have HNBi := Hid.mk' ((HNB.out.but hkb (fun j _ hjl e => by have := HGB.out; omega)).grow ((But.refl (fun _ => False) wr).alloc (.cells #[.slice (some ⟨gb, 0, none⟩) 256 256] 22)))
          have HGRi : Hid (Grow w2 wr) := HGR.out.then hkb (fun i hi e => by have := HGB.out; have := HGR.out.size; omega)
          have HEL : Hid (El (wr.alloc (.cells #[.slice (some ⟨gb, 0, none⟩) 256 256] 22)) (.slice (some ⟨gb, 0, none⟩) 256 256) gb zs) := ⟨256, [], rfl, Nat.le_refl _, hzl, hzt, by rw [List.append_nil]; exact hbz.but (R := fun _ => False) ((But.refl _ wr).alloc _) (fun h => h)⟩
          have HBLK : Hid (Blk (wr.alloc (.cells #[.slice (some ⟨gb, 0, none⟩) 256 256] 22)) wr.heap.size 22 [.slice (some ⟨gb, 0, none⟩) 256 256]) := Blk.new rfl
          have HLO : Hid (∀ i, i < k → G i ≠ gb) := fun i hi e => by
            obtain ⟨V, -, hV⟩ := HNB.out.ex
            have := (hV i hi).lt
            have := HGB.out
            omega
          have HRO : Hid ((Value.slice ra k rc).ownBlock ≠ some gb) := fun e => by
            have := (HNB.out.row.lt _ e).2
            have := HGB.out
            omega
          clear hkb hbz hbt hzl hzt HF3
          rcases (by omega : (¬ j < fn) ∨ (j < fn ∧ ¬ j < 256)) with hje | hje
          case' inr => obtain ⟨hje1, hje2⟩ := hje
          all_goals
            clear hj2
            go_wp2_with (first
              | (refine wpList_someH rfl (exec_append (v := .slice ra k rc) (n := k) (xs := (List.range k).map HNBi.out.ex.choose) (news := [.slice (some ⟨gb, 0, none⟩) 256 256]) Tryd.underlying26 infS rfl (by decide) rfl rfl HNBi.out.row rfl rfl (fun j u hj => HBLK.out.cells0 j u hj) (fun u hu => by rw [show u = .slice (some ⟨gb, 0, none⟩) 256 256 by simpa using hu]; rfl) (by omega) (by decide)) ?_; intro v5 w5 hap)
              | fail)
            have hpu := Nb.push HNBi.out HEL.out (by have := HGR.out.size; have := HGB.out; omega) (Nat.le_trans HGRi.out.size ((But.refl (fun _ => False) wr).alloc _).size) HLO.out HRO.out hap
            refine ⟨⟨k + 1, v5, rfl, by omega, by go_num, _, _, hpu, (HGRi.out.trans ((But.refl _ wr).alloc _)).then hap.but (fun i hi e => ?_)⟩, by simp [intOf]; omega⟩
            have := (HNBi.out.rnew i e).1
            omega
    · have hkc : k = c := by omega
      subst hkc
      have HO9 := Hid.mk' (HO2.out.grow hgr)
      have HB9 := Hid.mk' (HB2.out.but hgr (fun h => h))
      have HB09 : Hid (Blk wr g0 25 ([] ++ pcells Pn.zero noS ++ [])) := by
        show Blk _ _ _ _
        rw [List.nil_append, List.append_nil]; exact HB02.out.but hgr (fun h => h)
      clear hnb hgr
      go_wp2_with (first
        | (refine wpList_load_cells rfl _ _ rfl ⟨g, 0, none⟩ rfl (pcells P (.slice va ln vc)) _ HB9.out.pl Tryd.underlying25 rfl iPl ?_)
        | (refine wpList_store_at rfl _ _ _ rfl g0 0 (pcells P (.slice va ln vc)) rfl rfl 25 [] (pcells Pn.zero noS) [] HB09.out rfl rfl iPl (pcells_one _ rfl) ?_; intro w3 hb3 hbut3; rw [List.nil_append, List.append_nil] at hb3)
        | fail)
      have hs2 : g0 < w2.heap.size := HB02.out.lt
      have hs3 := HT0.out.size
      have hs4 := HG2.out.size
      have hno : ∀ j, (Value.slice va ln vc).ownBlock = some j → ¬ j = g0 := fun j hj e => by
        have := HO9.out.new j hj
        have := HB0.out.lt
        omega
      refine bodyPost_ret (results_plan_tmp rfl _ _ g0 _ _ _ _ rfl hb3 Tryd.underlying25 rfl iPl rfl) rfl ⟨⟨.slice va ln vc, r, G, T, ?_, ?_, ?_⟩, ?_⟩
      · rw [← HP.out]; rfl
      · rw [← HP.out]
        have h9 := HO9.out.but hbut3 hno
        exact ⟨h9.row, fun k hk => Nat.le_trans hs3 (h9.new k hk)⟩
      · rw [← HC.out]
        exact (HNB.out.but hbut3 (fun j hj _ e => by omega)).mono (by omega)
      · exact ((HT0.out.trans HG2.out).trans HGR.out).then hbut3 (fun j hj e => by have := HG0.out; omega)
end Go.Proofs.YtmlladpmecclbaaDoor
/- tree's laws: awake. -/
namespace Go.Proofs.YtmlladpmecclbaaDoor
open Go.RowKit

theorem exec_eqT {w : World} {o : Oper} {ρ : Operand → Value} {t t' : TypeId} {x y : Operand} {N M : Array Value} {b : Bool} (ho : o.op = .binOp .eql t x y t') (hx : ρ x = .agg N) (hy : ρ y = .agg M) (hT : Tryd.prog.eqGuardType Tryd.prog.depth t = false) (h : (Op.equalIn 10000 t (.agg N) (.agg M)).run Tryd.prog w = .ok b w) : (execOp ρ o).run Tryd.prog w = .ok (.value (.bool b)) w :=
  exec_binP ho hx hy (run_eqGuard_agg (P := Tryd.prog) (w := w) .eql t x y N M hT) (by rw [run_eql_struct, h]; rfl)
theorem same_grow {v u : Value} {xs ys : List Nat} {w : World} (hv : Bs w v xs) (hu : Bs w u ys) : Calls Tryd.prog 19 #[v, u] w fun e w' => e = .returned (.bool (decide (xs = ys))) ∧ Grow w w' := by
  refine (same_any hv hu).mono ?_
  rintro e w' ⟨rfl, d, rfl⟩
  exact ⟨rfl, (But.refl _ w).drewN⟩
theorem slice_hiT {b so m cap n : Nat} (hn : n ≤ cap) (w0 : World) :
    (Instr.sliceAt 22 (.slice (some ⟨b, so, none⟩) m cap) none (some (.int .i64 (n : Int))) none).run Tryd.prog w0 = .ok (.slice (some ⟨b, so, none⟩) n cap) w0 := by
  have hn' : (n : Int) ≤ (cap : Int) := by omega
  go_simp
/-- What the example's tree is. -/
theorem ex_plan1 : plan 1 4 = ⟨1, 4, 1, [1], 1, 3, 1, 4, 8, 12⟩ := by
  have e2 : bg 1 16 = 1 := by decide +kernel
  have e3 : bg (12 + 4 * 4) 256 = 1 := by decide +kernel
  unfold plan
  simp only [e2, e3]
  rfl
theorem ex_bld (x : Bk) : bldL (plan 1 4).pages [x] (plan 1 4).levels = [abv [bd 1 x] 1 0] := by
  rw [ex_plan1]
  show upL 1 [x] ++ [] = _
  rw [List.append_nil]
  unfold upL
  rw [show bdL 1 [x] = [bd 1 x] by rfl, show ([x].length + 7) / 8 = 1 by simp]
  rfl
theorem ex_root (x : Bk) : rootOf (plan 1 4) [x] = bd 2 (abv [bd 1 x] 1 0) := by
  unfold rootOf treeOf
  rw [ex_bld]
  rw [show (plan 1 4).head - 1 = 2 by rw [ex_plan1]; rfl]
  simp
theorem ex_node (x : Bk) : (abv [bd 1 x] 1 0).length = 256 ∧ (abv [bd 1 x] 1 0).take 32 = bd 1 x ∧ (abv [bd 1 x] 1 0).getD 32 0 = 0 := by
  have hL : ∀ d ∈ [bd 1 x], wf32 d := fun d hd => by rw [show d = bd 1 x by simpa using hd]; exact bd_wf _ _
  have h1 := (abv_ok hL 1 (by simp) 0).1
  have h2 := abv_kid hL 1 (by simp) 0 0 (by decide)
  have h3 := abv_kid hL 1 (by simp) 0 1 (by decide)
  generalize abv [bd 1 x] 1 0 = N at *
  rw [if_pos (by decide)] at h2
  rw [if_neg (by decide)] at h3
  refine ⟨h1, by simpa [kidL] using h2, ?_⟩
  have := congrArg (fun l => l.getD 0 0) h3
  unfold kidL z32 at this
  simpa [List.getD] using this
set_option maxRecDepth 100000 in
set_option maxHeartbeats 16000000 in
theorem awaket_any {w : World} (hk : Kw w) (hh : Hw w) : Calls Tryd.prog 12 #[] w fun e w' => e = .returned (.bool true) ∧ Grow w w' := by
  obtain ⟨Z, hZ⟩ : ∃ Z, Z = u8s z32 := ⟨_, rfl⟩
  have hz := z32v
  rw [← hZ] at hz
  have HZL : Hid (Z.length = 32) := by show _ = _; rw [hZ]; rfl
  have HZZ := Hid.mk' hz
  have HMD := Hid.mk' (made_tr (x := 0) (Bs.nil w) (by decide))
  rw [show 1 + ((0 : Int) % 300).toNat = 1 by decide] at HMD
  have HK := Hid.mk' hk
  have HH := Hid.mk' hh
  clear hk hh hZ
  go_enter Tryd.func12, Tryd.ntmps12
  go_wp2_with fail
  refine Calls.mono HMD.out ?_
  rintro e w1 ⟨⟨pv, v, G, T, rfl, hop, hnb⟩, hg1⟩
  rw [show bg 1 16 = 1 by decide] at hnb
  obtain ⟨P, hP⟩ : ∃ P, P = plan 1 4 := ⟨_, rfl⟩
  have HP := Hid.mk' hP
  rw [← hP] at hop ⊢
  have HPM : Hid (Mad P) := by show Mad P; rw [hP]; exact plan_mad (by decide) (by decide)
  have HLV : Hid (Lvl P.counters P.levels) := by show Lvl _ _; rw [hP]; exact plan_lvl (by decide) (by decide)
  have HPC : Hid (P.counters = 1) := by show _ = _; rw [hP, ex_plan1]
  obtain ⟨va, vc, rfl⟩ := hop.sl
  have HNB := Hid.mk' hnb
  have HG1 := Hid.mk' hg1
  obtain ⟨la, lc, hle⟩ := hnb.len
  subst hle
  generalize P.levels.length = ln at *
  clear hop hg1 HMD hP hnb
  go_upto_region 2 with (first
    | (refine wpList_runH rfl (exec_allocF rfl (zPl _)) ?_)
    | (refine wpList_store_at rfl _ _ _ rfl w1.heap.size 0 (pcells P (.slice va ln vc)) rfl (by exact rfl) 25 [] (pcells Pn.zero noS) [] (var_new w1) rfl rfl iPl (pcells_one _ rfl) ?_; intro w2 hb2 hbut2; rw [List.nil_append, List.append_nil] at hb2)
    | fail)
  obtain ⟨g1, hgg⟩ : ∃ g, g = w1.heap.size := ⟨_, rfl⟩
  have hg2 := var_grow hbut2
  rw [← hgg] at hb2 ⊢
  have HB2 := Hid.mk' hb2
  have HG2 := Hid.mk' (HG1.out.trans hg2)
  obtain ⟨x, hx⟩ : ∃ x, x = T 0 := ⟨_, rfl⟩
  have HNB2 := Hid.mk' (HNB.out.grow hg2)
  have hps : ∀ w', Grow w2 w' → Ps w' (.slice la 1 lc) [x] := fun w' k => by
    have := (HNB2.out.grow k).ps
    rw [show (List.range 1).map T = [x] by rw [hx]; rfl] at this
    exact this
  have hokx : okB [x] := fun y hy => by
    rw [show y = x by simpa using hy, hx]
    obtain ⟨V, -, hV⟩ := HNB2.out.ex
    obtain ⟨_, _, _, _, h3, h4, _⟩ := hV 0 (by decide)
    exact ⟨h3, h4⟩
  have hbd := build_any (pv := .slice va ln vc) (LgO.none w2 []) HPM.out HLV.out (fun w' k => by
    have k2 : Grow w2 w' := k.mono (fun _ _ e => e rfl)
    exact ⟨HK.out.but (HG2.out.trans k2) (fun h => h), HH.out.but (HG2.out.trans k2) (fun h => h), hps w' k2⟩) (by rw [HPC.out]; rfl) hokx (by decide)
  obtain ⟨N, hN⟩ : ∃ N, N = abv [bd 1 x] 1 0 := ⟨_, rfl⟩
  obtain ⟨R, hR⟩ : ∃ R, R = bd 2 N := ⟨_, rfl⟩
  have hroot : rootOf P [x] = R := by rw [HP.out, ex_root, ← hN, hR]
  have hbl : bldL P.pages [x] P.levels = [N] := by rw [HP.out, ex_bld, ← hN]
  rw [hroot] at hbd
  have HBD := Hid.mk' hbd
  have HPS := Hid.mk' hps
  have HBL := Hid.mk' hbl
  have HND := Hid.mk' (ex_node x)
  rw [← hN] at HND
  have HX := Hid.mk' hokx
  have HRL : Hid (R.length = 32) := by show _ = _; rw [hR]; exact bd_len _ _
  have HR := Hid.mk' hR
  obtain ⟨RN, hRN⟩ : ∃ RN, RN = (u8s R).toArray := ⟨_, rfl⟩
  rw [show dkey R = .agg RN by rw [hRN]; rfl] at HBD
  have HRN := Hid.mk' hRN
  clear hgg hb2 hbut2 hg2 hps hokx hbd hN hR hroot hbl hRN hx
  go_wp2_with (first
    | (refine wpList_load_cells rfl _ _ rfl ⟨g1, 0, none⟩ rfl (pcells P (.slice va ln vc)) _ HB2.out.pl Tryd.underlying25 rfl iPl ?_)
    | fail)
  refine Calls.mono HBD.out ?_
  rintro e w3 ⟨nv, rfl, hbt⟩
  have hg3 : Grow w2 w3 := hbt.but.mono (fun _ _ e => e rfl)
  obtain ⟨own', Q, L, -, -, -, -, -, hbr, hLe⟩ := hbt.ex
  rw [HBL.out] at hLe
  obtain ⟨⟨u0, N'⟩, rfl, hN'⟩ : ∃ e0 : BE, L = [e0] ∧ e0.2 = N := by
    match L, hLe with
    | [e0], h => exact ⟨e0, rfl, by simpa using h⟩
  simp only at hN'
  subst hN'
  have hbs0 := (hbr.el (u0, N') (by simp)).1
  simp only at hbs0
  obtain ⟨nao, ncap, hne, hnc⟩ := hbr.row.shape
  obtain ⟨nb, rfl, -, hnbl, hncell⟩ := hnc (by simp)
  have hne' : nv = .slice (some ⟨nb, 0, none⟩) 1 ncap := hne
  subst hne'
  have cn := hncell 0 u0 rfl
  obtain ⟨hN8, -, ⟨h0, -⟩ | ⟨-, ub, uo, ucap, rfl, huc, hub, hucell⟩⟩ := hbs0
  · have := HND.out.1; rw [h0] at this; simp at this
  have HBS : Hid (Bs w3 (.slice (some ⟨ub, uo, none⟩) N'.length ucap) N') := (hbr.el (.slice (some ⟨ub, uo, none⟩) N'.length ucap, N') (List.mem_singleton.2 rfl)).1
  rw [HND.out.1] at huc HBS cn
  have cu := hucell 32 (by rw [HND.out.1]; decide)
  rw [HND.out.2.2] at cu
  have HG3 := Hid.mk' (HG2.out.trans hg3)
  have HPS3 := Hid.mk' (HPS.out w3 hg3)
  have HLC : Hid (ucap ≥ 256) := huc
  clear hbt hbr hLe hne hnc hncell hN8 hucell hg3 HPS HBD hnbl hub
  obtain ⟨pa, pc, hpe, hpc⟩ := HPS3.out.gen
  simp only [Value.slice.injEq] at hpe
  obtain ⟨rfl, -, rfl⟩ := hpe
  obtain ⟨lb, lo, rfl, hlb, hlc⟩ := hpc (by simp)
  obtain ⟨ux, hux, hbx⟩ := hlc 0 (by simp)
  rw [Nat.add_zero] at hux
  have hbx' : Bs w3 ux x := hbx
  have HBX := Hid.mk' hbx'
  obtain ⟨xa, xn, xc, rfl⟩ := hbx'.sl
  clear hpc hlc hbx hlb
  obtain ⟨g4, hg4⟩ : ∃ g, g = w3.heap.size := ⟨_, rfl⟩
  obtain ⟨w4, hw4⟩ : ∃ w4, w4 = w3.alloc (.cells Z.toArray 31) := ⟨_, rfl⟩
  have hk4 : Grow w3 w4 := by rw [hw4]; exact (But.refl _ w3).alloc _
  have hbz4 : Blk w4 g4 31 Z := by rw [hw4]; exact Blk.new hg4.symm
  go_upto_region 3 with (first
    | (refine wpList_store_u8s i32 rfl _ _ rfl w3.heap.size R HRL.out rfl (by rw [← HRN.out]; rfl) Z HZL.out (by rw [← hw4, ← hg4]; exact hbz4) ?_; intro w5 hb5 hbut5)
    | fail)
  have hg5 : Grow w3 w5 := ((But.refl _ w3).alloc _).then hbut5 (fun i hi e => by omega)
  rw [← hg4] at hb5 ⊢
  have HB5 := Hid.mk' hb5
  have HG35 := Hid.mk' hg5
  obtain ⟨D, hD⟩ : ∃ D, D = bd 1 x := ⟨_, rfl⟩
  have hx256 := (HX.out x (List.mem_singleton.2 rfl)).1
  have hrd := rdig_any (x := 1) (HBX.out.but hg5 (fun _ _ _ h => h)) (by omega)
  rw [← hD] at hrd
  obtain ⟨DN, hDN⟩ : ∃ DN, DN = (u8s D).toArray := ⟨_, rfl⟩
  rw [show dkey D = .agg DN by rw [hDN]; rfl] at hrd
  have HRD := Hid.mk' hrd
  have HDN := Hid.mk' hDN
  have HD := Hid.mk' hD
  have HDL : Hid (D.length = 32) := by show _ = _; rw [hD]; exact bd_len _ _
  have hux5 := grow_cell hg5 hux
  have hux6 : w5.cell? ((⟨lb, lo, none⟩ : Addr).add 0) = some (.slice xa xn xc) := by rw [addr_add, Nat.add_zero]; exact hux5
  have cn5 := grow_cell hg5 cn
  have cu5 := grow_cell hg5 cu
  clear hg5 hb5 hbut5 hw4 hk4 hbz4 hg4 hrd hD hDN hux cn cu hx256
  go_wp2_with fail
  refine Calls.mono HRD.out ?_
  rintro e w6 ⟨rfl, hg6⟩
  have HG6 := Hid.mk' hg6
  obtain ⟨g6, hg6e⟩ : ∃ g, g = w6.heap.size := ⟨_, rfl⟩
  have HBZ6 : Hid (Blk (w6.alloc (.cells Z.toArray 31)) w6.heap.size 31 Z) := Blk.new rfl
  have cn6 := grow_cell hg6 cn5
  have cu6 := grow_cell hg6 cu5
  clear cn5 cu5 hg6 hux5 hux6
  go_upto_region 4 with (first
    | (refine wpList_store_u8s i32 rfl _ _ rfl w6.heap.size D HDL.out rfl (by rw [← HDN.out]; rfl) Z HZL.out HBZ6.out ?_; intro w7 hb7 hbut7)
    | fail)
  have hg7 : Grow w6 w7 := ((But.refl _ w6).alloc _).then hbut7 (fun i hi e => by omega)
  rw [← hg6e] at hb7 ⊢
  have HB7 := Hid.mk' hb7
  have HG7 := Hid.mk' (HG6.out.trans hg7)
  have HR7 := Hid.mk' (HB5.out.but HG7.out (fun h => h))
  have HGA := Hid.mk' (HG3.out.trans (HG35.out.trans HG7.out))
  have HCN : Hid (∀ w', Grow w7 w' → w'.cell? ⟨nb, 0, none⟩ = some (.slice (some ⟨ub, uo, none⟩) 256 ucap)) := fun w' k => grow_cell k (grow_cell hg7 cn6)
  have HCU : Hid (∀ w', Grow w7 w' → w'.cell? ⟨ub, uo + 32, none⟩ = some (.int .u8 ((0 : Nat) : Int))) := fun w' k => grow_cell k (grow_cell hg7 cu6)
  have HB : Hid (∀ w', Grow w7 w' → Bs w' (.slice (some ⟨ub, uo, none⟩) 256 ucap) N') := fun w' k => HBS.out.but ((HG35.out.trans HG7.out).trans k) (fun _ _ _ h => h)
  have HSM : Hid (∀ w', Grow w7 w' → Calls Tryd.prog 19 #[.slice (some ⟨ub, uo, none⟩) 32 ucap, .slice (some ⟨g6, 0, none⟩) 32 32] w' fun e w'' => e = .returned (.bool true) ∧ Grow w' w'') := fun w' k => by
    have h1 := (HB.out w' k).front (n := 32) (by rw [HND.out.1]; decide) (by simp)
    have h2 : Bs w' (.slice (some ⟨g6, 0, none⟩) 32 32) D := by
      have hb := HB7.out.but k (fun h => h)
      refine ⟨by rw [HD.out]; exact (bd_wf 1 x).2, by have := HDL.out; omega, .inr ⟨by have := HDL.out; omega, g6, 0, 32, by rw [HDL.out], by rw [HDL.out]; exact Nat.le_refl _, hb.lt, fun i hi => by rw [Nat.zero_add, hb.cell, u8s_get _ _ hi]⟩⟩
    have := same_grow h1 h2
    rw [HND.out.2.1, ← HD.out] at this
    simpa using this
  have HDG : Hid (∀ w', Grow w7 w' → Calls Tryd.prog 30 #[.int .i64 2, .slice (some ⟨ub, uo, none⟩) 256 ucap] w' fun e w'' => e = .returned (.agg RN) ∧ Grow w' w'') := fun w' k => by
    have := rdig_any (x := 2) (HB.out w' k) (by rw [HND.out.1]; decide)
    rw [← HR.out, show dkey R = .agg RN by rw [HRN.out]; rfl] at this
    exact this
  have HEQ : Hid (∀ w', (Op.equalIn 10000 31 (.agg RN) (.agg RN)).run Tryd.prog w' = .ok true w') := fun w' => by
    rw [HRN.out]; exact equal_same R HRL.out w'
  have HHI := Hid.mk' (fun w' => slice_hiT (b := ub) (so := uo) (m := 256) (cap := ucap) (n := 32) (by have := HLC.out; omega) w')
  clear hb7 hbut7 hg7 cn6 cu6 hg6e HBZ6 HB5 HPS3 HBS
  refine region_chain [] [0, 1, 2, 3, 4, 5, 6, 7, 8, 9, 10, 11, 12, 13, 14, 15, 16, 17, 18, 19, 20, 21, 22, 23, 24, 25, 26, 27, 28, 29, 30, 31] (Grow w7) (Grow w7) (by kernel_rfl) (by kernel_rfl) (fun _ _ h k => h.trans k) (fun _ h => h) ((But.refl _ w7).drew) ?_
  intro ι hne X hX
  have c1 : ∀ x, (X x).cell? ⟨nb, 0, none⟩ = some (.slice (some ⟨ub, uo, none⟩) 256 ucap) := fun x => HCN.out (X x) (hX x)
  have c2 : ∀ x, (X x).cell? ⟨ub, uo + 32, none⟩ = some (.int .u8 ((0 : Nat) : Int)) := fun x => HCU.out (X x) (hX x)
  iterate 11 (refine still_step rfl (fun K hK => ?_); go_simp; refine hK _ ?_; clear hK K)
  refine still_val rfl (.slice (some ⟨ub, uo, none⟩) 32 ucap) rfl (fun x => exec_slc rfl rfl rfl rfl (HHI.out (X x))) ?_
  intro K hK; go_simp; refine hK _ ?_; clear hK K
  refine still_val rfl (.slice (some ⟨g6, 0, none⟩) 32 32) rfl (fun x => exec_slc rfl rfl rfl rfl (slice32 (X x) g6)) ?_
  intro K hK; go_simp; refine hK _ ?_; clear hK K
  refine still_call rfl (.bool true) 19 #[.slice (some ⟨ub, uo, none⟩) 32 ucap, .slice (some ⟨g6, 0, none⟩) 32 32] rfl (fun _ => by kernel_rfl) (fun x => HSM.out (X x) (hX x)) ?_
  intro K hK; go_simp; refine hK _ ?_; clear hK K
  iterate 2 (refine still_step rfl (fun K hK => ?_); go_simp; refine hK _ ?_; clear hK K)
  refine still_val rfl (.agg RN) rfl (fun x => by rw [HRN.out]; exact run_load_arr ukt i32 (HR7.out.but (hX x) (fun h => h)).cells0 HRL.out rfl rfl) ?_
  intro K hK; go_simp; refine hK _ ?_; clear hK K
  iterate 3 (refine still_step rfl (fun K hK => ?_); go_simp; refine hK _ ?_; clear hK K)
  refine still_call rfl (.agg RN) 30 #[.int .i64 2, .slice (some ⟨ub, uo, none⟩) 256 ucap] rfl (fun _ => by kernel_rfl) (fun x => HDG.out (X x) (hX x)) ?_
  intro K hK; go_simp; refine hK _ ?_; clear hK K
  refine still_val rfl (.bool true) rfl (fun x => exec_eqT rfl rfl rfl (by kernel_rfl) (HEQ.out (X x))) ?_
  intro K hK; go_simp; refine hK _ ?_; clear hK K
  iterate 10 (refine still_step rfl (fun K hK => ?_); go_simp; refine hK _ ?_; clear hK K)
  refine still_nil ?_
  clear hX hne c1 c2
  intro w8 hw8
  have HG8 := Hid.mk' (HGA.out.trans hw8)
  clear hw8
  go_wp2
  go_ret
  exact ⟨rfl, HG8.out⟩
end Go.Proofs.YtmlladpmecclbaaDoor
/- tree: Check, all its answers. -/
namespace Go.Proofs.YtmlladpmecclbaaDoor
open Go.RowKit

theorem Ps.elems {w : World} {v : Value} {xss : List (List Nat)} (h : Ps w v xss) : ∀ x ∈ xss, ∀ z ∈ x, z < 256 := fun x hx => by
  obtain ⟨i, hi, rfl⟩ := List.mem_iff_getElem.1 hx
  obtain ⟨ao, cap, -, hh⟩ := h.gen
  obtain ⟨b, off, -, -, hc⟩ := hh (by omega)
  obtain ⟨u, -, hb⟩ := hc i hi
  have e : xss.getD i [] = xss[i] := by simp [List.getD, hi]
  rw [e] at hb
  exact hb.1
/-- Does it fit a page's path? -/
def Fits (p : Pn) (x : Int) (path : List Bk) : Prop := p.has x = true ∧ path.length = (p.path x).length ∧ whl path = true
/-- What Check answers. -/
def CkIs (p : Pn) (x : Int) (path : List Bk) (root : List Nat) (r : Int) : Prop :=
  (p.has x = false ∧ r = 1) ∨ (p.has x = true ∧ (path.length ≠ (p.path x).length ∨ whl path = false) ∧ r = 3) ∨ (Fits p x path ∧ Good p (p.path x) path root ∧ r = 0) ∨ (Fits p x path ∧ ¬ Good p (p.path x) path root ∧ r = 10)
theorem CkIs.uniq {p : Pn} {x : Int} {path : List Bk} {root : List Nat} {r s : Int} (h : CkIs p x path root r) (k : CkIs p x path root s) : r = s := by
  unfold CkIs Fits at h k
  rcases h with ⟨a1, a2⟩ | ⟨a1, a2, a3⟩ | ⟨⟨a1, a2, a3⟩, a4, a5⟩ | ⟨⟨a1, a2, a3⟩, a4, a5⟩ <;> rcases k with ⟨b1, b2⟩ | ⟨b1, b2, b3⟩ | ⟨⟨b1, b2, b3⟩, b4, b5⟩ | ⟨⟨b1, b2, b3⟩, b4, b5⟩ <;> first
    | omega
    | exact absurd (a1.symm.trans b1) (by decide)
    | exact (a2.elim (fun q => absurd b2 q) (fun q => absurd (q.symm.trans b3) (by decide)))
    | exact (b2.elim (fun q => absurd a2 q) (fun q => absurd (q.symm.trans a3) (by decide)))
    | exact absurd a4 b4
    | exact absurd b4 a4
theorem CkIs.small {p : Pn} {x : Int} {path : List Bk} {root : List Nat} {r : Int} (h : CkIs p x path root r) : 0 ≤ r ∧ r ≤ 10 := by
  rcases h with ⟨_, rfl⟩ | ⟨_, _, rfl⟩ | ⟨_, _, rfl⟩ | ⟨_, _, rfl⟩ <;> decide
theorem CkIs.ok {p : Pn} {x : Int} {path : List Bk} {root : List Nat} (h : CkIs p x path root 0) : Fits p x path ∧ Good p (p.path x) path root := by
  rcases h with ⟨_, h⟩ | ⟨_, _, h⟩ | ⟨a, b, _⟩ | ⟨_, _, h⟩
  · exact absurd h (by decide)
  · exact absurd h (by decide)
  · exact ⟨a, b⟩
  · exact absurd h (by decide)
/-- What it notes. -/
def noteC (p : Pn) (x : Int) (path : List Bk) (r : Int) : List Pr := if r = 0 then noteB (p.path x) path path.length else []
theorem chk_all {w : World} {own : Owner} {lv v pv : Value} {P : List Pr} {p : Pn} {x : Int} {root : List Nat} {path : List Bk} (hlg : LgO w own lv P) (hm : Mad p) (hv : Nums w pv p.levels)
    (hst : ∀ w', But (fun b => own b ≠ .none) w w' → Kw w' ∧ Hw w' ∧ Ps w' v path) (hcap : ∀ ao n c, v = .slice ao n c → n ≤ c) (hl : path.length ≤ 1000000) (hr : wf32 root) (hP : P.length ≤ 90000) :
    Calls Tryd.prog 11 #[lv, pval p pv, .int .i64 x, v, dkey root] w fun e w' => ∃ r, e = .returned (.int .i64 r) ∧ CkIs p x path root r ∧ LgOTo w own lv (P ++ noteC p x path r) w' := by
  have hps := (hst w (But.refl _ _)).2.2
  cases hx : p.has x with
  | false =>
    refine (chk_no hx).mono ?_
    rintro e w' ⟨rfl, hg⟩
    refine ⟨1, rfl, .inl ⟨hx, rfl⟩, ?_⟩
    rw [noteC, if_neg (by decide), List.append_nil]
    exact LgOTo.from hg (LgOTo.refl (hlg.grow hg))
  | true =>
    by_cases hn : path.length = (p.path x).length
    · cases hw : whl path with
      | false =>
        refine (chk_form hm hv hx hps (.inr hw) hl).mono ?_
        rintro e w' ⟨rfl, hg⟩
        refine ⟨3, rfl, .inr (.inl ⟨hx, .inr hw, rfl⟩), ?_⟩
        rw [noteC, if_neg (by decide), List.append_nil]
        exact LgOTo.from hg (LgOTo.refl (hlg.grow hg))
      | true =>
        refine (chk_any hlg hm hv hx hst hcap hn hw hps.elems hr hP).mono ?_
        rintro e w' (⟨hg, rfl, hl⟩ | ⟨hg, rfl, hl⟩)
        · refine ⟨0, rfl, .inr (.inr (.inl ⟨⟨hx, hn, hw⟩, hg, rfl⟩)), ?_⟩
          rw [noteC, if_pos rfl]
          exact hl
        · refine ⟨10, rfl, .inr (.inr (.inr ⟨⟨hx, hn, hw⟩, hg, rfl⟩)), ?_⟩
          rw [noteC, if_neg (by decide), List.append_nil]
          exact LgOTo.from hl (LgOTo.refl (hlg.grow hl))
    · refine (chk_form hm hv hx hps (.inl hn) hl).mono ?_
      rintro e w' ⟨rfl, hg⟩
      refine ⟨3, rfl, .inr (.inl ⟨hx, .inl hn, rfl⟩), ?_⟩
      rw [noteC, if_neg (by decide), List.append_nil]
      exact LgOTo.from hg (LgOTo.refl (hlg.grow hg))
theorem noteB_get {bl : List Int} {path : List Bk} : ∀ {n k : Nat}, k < n → (noteB bl path n)[k]? = some (inp (bl.getD k 0) (path.getD k []), bd (bl.getD k 0) (path.getD k []))
  | n + 1, k, h => by
    unfold noteB
    by_cases hk : k < n
    · rw [List.getElem?_append_left (by rw [noteB_len]; exact hk)]; exact noteB_get hk
    · have e : k = n := by omega
      subst e
      rw [List.getElem?_append_right (by rw [noteB_len]; exact Nat.le_refl _), noteB_len]
      simp
theorem Hq.noteB {bl : List Int} {path : List Bk} (h : ∀ x ∈ path, x.length ≤ 300) : ∀ n, Hq (noteB bl path n)
  | 0 => fun q hq => absurd hq List.not_mem_nil
  | n + 1 => by
    unfold Go.Proofs.YtmlladpmecclbaaDoor.noteB
    refine (Hq.noteB h n).app (fun q hq => ?_)
    rw [List.mem_singleton.1 hq]
    refine ⟨rfl, ?_⟩
    show (inp _ _).length ≤ 1000
    rw [inp_len]
    by_cases hn : n < path.length
    · have := h (path.getD n []) (by simp [List.getD, hn])
      omega
    · have : path.getD n [] = [] := by simp [List.getD, show ¬ n < path.length from hn]
      rw [this]; simp
theorem Hq.noteC {p : Pn} {x : Int} {path : List Bk} {root : List Nat} {r : Int} (h : CkIs p x path root r) : Hq (noteC p x path r) ∧ (noteC p x path r).length ≤ path.length := by
  unfold Go.Proofs.YtmlladpmecclbaaDoor.noteC
  by_cases hr : r = 0
  · subst hr
    rw [if_pos rfl]
    exact ⟨Hq.noteB (fun y hy => by have := whl_true h.ok.1.2.2 y hy; omega) _, by rw [noteB_len]; exact Nat.le_refl _⟩
  · rw [if_neg hr]
    exact ⟨fun q hq => absurd hq List.not_mem_nil, Nat.zero_le _⟩
theorem eq_of_getD2 {xss yss : List (List Nat)} (hl : xss.length = yss.length) (h : ∀ i, i < xss.length → xss.getD i [] = yss.getD i []) : xss = yss := by
  apply List.ext_getElem hl
  intro i h1 h2
  have := h i h1
  simpa [List.getD, h1, h2] using this
end Go.Proofs.YtmlladpmecclbaaDoor
/- tree: the path in a tree that was built is taken under its root; no code in it. -/
namespace Go.Proofs.YtmlladpmecclbaaDoor
open Go.RowKit

/-- Who has no parent is the top. -/
theorem parGo_err : ∀ (ls : List Int) (t f m x : Int), 0 ≤ f → 1 ≤ m → LvC m ls → f + m + sm ls ≤ 1000000 → f ≤ x → x < f + m + sm ls → (parGo x t f m ls).e ≠ 0 → x = f + m + sm ls - 1
  | [], t, f, m, x, hf, hm, hl, hb, h1, h2, he => by
    have hm1 : m = 1 := hl
    have hs : sm [] = 0 := rfl
    rw [hs] at h2 ⊢
    omega
  | a :: ls, t, f, m, x, hf, hm, hl, hb, h1, h2, he => by
    obtain ⟨ha, hl'⟩ := hl
    have hs : sm (a :: ls) = a + sm ls := rfl
    have hp := LvC.pos (show 1 ≤ a by omega) hl'
    rw [hs] at hb h2 ⊢
    by_cases hx : x < f + m
    · rw [parGo_in hf h1 hx (by omega)] at he
      exact absurd rfl he
    · rw [parGo_skip hf (by omega) (by omega) (by omega)] at he
      have := parGo_err ls t (f + m) a x (by omega) (by omega) hl' (by omega) (by omega) (by omega) he
      omega
/-- The blocks of a page's path, out of a tree. -/
def trP (p : Pn) (T : List Bk) (x : Int) : List Bk := (p.path x).map fun b => T.getD (b - p.pages).toNat []
theorem trP_len (p : Pn) (T : List Bk) (x : Int) : (trP p T x).length = (p.path x).length := by simp [trP]
theorem trP_get {p : Pn} {T : List Bk} {x : Int} {i : Nat} (h : i < (p.path x).length) : (trP p T x).getD i [] = T.getD ((p.path x).getD i 0 - p.pages).toNat [] := by
  simp [trP, List.getD, h]
theorem good_built {p : Pn} (h : Mad p) {C : List Bk} (hC : (C.length : Int) = p.counters) (ho : okB C) {x : Int} (hx : p.has x = true) :
    Good p (p.path x) (trP p (treeOf p C) x) (rootOf p C) := by
  have hs := h.stps hx
  have hr := treeOf_rule h hC ho
  have hlen := treeOf_len h hC ho
  have h1 := h.pg
  have h2 := h.c1
  have h3 := h.sum
  have h4 := h.nd
  have h5 := h.hd
  have hsm := (LvC.pos h2.1 h.lv).2
  intro i hi
  rw [trP_len] at hi ⊢
  rw [trP_get hi]
  have hri := hs.rng i hi
  generalize hbi : (p.path x).getD i 0 = bi at hri ⊢
  obtain ⟨j, hj⟩ : ∃ j : Nat, bi = p.pages + j := ⟨(bi - p.pages).toNat, by omega⟩
  subst hj
  have ej : (p.pages + (j : Int) - p.pages).toNat = j := by omega
  rw [ej]
  by_cases hl : i + 1 = (p.path x).length
  · rw [if_pos hl]
    have he := hs.top i hl
    rw [hbi, h.par_hi _ (by omega) (by omega)] at he
    have ht := parGo_err p.levels p.top p.pages p.counters (p.pages + j) (by omega) (by omega) h.lv (by omega) (by omega) (by omega) he
    unfold rootOf
    have e1 : p.head - 1 = p.pages + (j : Int) := by omega
    have e2 : (treeOf p C).length - 1 = j := by omega
    rw [e1, e2]
  · rw [if_neg hl, trP_get (by omega)]
    obtain ⟨q1, q2, q3, q4⟩ := hs.up i (by omega)
    rw [hbi] at q1 q2 q3 q4
    have hrn := hs.rng (i + 1) (by omega)
    rw [← q2] at hrn ⊢
    rw [h.par_hi _ (by omega) (by omega)] at q1 q2 q3 q4 hrn ⊢
    obtain ⟨b, hb⟩ : ∃ b : Nat, (parGo (p.pages + (j : Int)) p.top p.pages p.counters p.levels).block = p.pages + b := ⟨((parGo (p.pages + (j : Int)) p.top p.pages p.counters p.levels).block - p.pages).toNat, by omega⟩
    obtain ⟨a, ha⟩ : ∃ a : Nat, (parGo (p.pages + (j : Int)) p.top p.pages p.counters p.levels).at' = a := ⟨(parGo (p.pages + (j : Int)) p.top p.pages p.counters p.levels).at'.toNat, by omega⟩
    rw [hb, ha]
    have eb : (p.pages + (b : Int) - p.pages).toNat = b := by omega
    rw [eb, Int.toNat_natCast]
    exact (hr.kid j (by omega) q1 b a hb ha).symm
theorem trP_ok {p : Pn} (h : Mad p) {C : List Bk} (hC : (C.length : Int) = p.counters) (ho : okB C) {x : Int} (hx : p.has x = true) : okB (trP p (treeOf p C) x) := by
  have hs := h.stps hx
  have hr := treeOf_rule h hC ho
  have hlen := treeOf_len h hC ho
  have h5 := h.hd
  intro y hy
  obtain ⟨i, hi, rfl⟩ := List.mem_iff_getElem.1 hy
  have hi' : i < (p.path x).length := by rw [← trP_len p (treeOf p C)]; exact hi
  have e := trP_get (T := treeOf p C) hi'
  rw [show (trP p (treeOf p C) x)[i] = (trP p (treeOf p C) x).getD i [] by simp [List.getD, hi], e]
  have hri := hs.rng i hi'
  have hlt : ((p.path x).getD i 0 - p.pages).toNat < (treeOf p C).length := by rw [hlen]; omega
  generalize ((p.path x).getD i 0 - p.pages).toNat = j at hlt
  exact hr.ok _ (by simp [List.getD, hlt])
end Go.Proofs.YtmlladpmecclbaaDoor
/- tree's laws: path: the blocks of a page's path, copied out of what stands behind the pages. -/
namespace Go.Proofs.YtmlladpmecclbaaDoor
open Go.RowKit

theorem infS2 : (Tryd.prog.info? 22).map (fun i => (i.zero, i.size, i.bytes)) = some (some (.slice none 0 0), 1, 24) := by kernel_rfl
theorem but_cell {R : Nat → Prop} {w w' : World} {b o : Nat} {u : Value} (k : But R w w') (h : w.cell? ⟨b, o, none⟩ = some u) (hr : ¬ R b) : w'.cell? ⟨b, o, none⟩ = some u :=
  (World.cell?_of_block (k.block b (cell_lt h) hr)).trans h
set_option maxRecDepth 100000 in
set_option maxHeartbeats 8000000 in
theorem lpath_any {w : World} {v pv : Value} {p : Pn} {x : Int} {T : List Bk} (hm : Mad p) (hv : Nums w pv p.levels) (hx : p.has x = true) (hps : Ps w v T) (hT : T.length = (p.counters + p.nodes).toNat) (hok : okB T) :
    Calls Tryd.prog 10 #[pval p pv, .int .i64 x, v] w fun e w' => ∃ v' G, e = .returned v' ∧ Nb w.heap.size w' v' (p.path x).length G (fun i => (trP p T x).getD i []) ∧ Grow w w' := by
  have hs := hm.stps hx
  have h1 := hm.pg
  have h3 := hm.sum
  have h4 := hm.nd
  have h5 := hm.hd
  have h6 := hm.c1
  obtain ⟨W, gp, hbx⟩ := box_pl w p pv
  have HW := Hid.mk' hbx.ew
  have HGP := Hid.mk' hbx.eg
  have HG := Hid.mk' hbx.grow
  have HBX := Hid.mk' hbx.blk
  obtain ⟨bl, hbl⟩ : ∃ bl, bl = p.path x := ⟨_, rfl⟩
  have hpi := path_nums hm hx
  rw [← hbl] at hs hpi
  have HPT : Hid (Calls Tryd.prog 25 #[pval p pv, .int .i64 x] W (PathTo W bl)) := by
    rw [hbl]; exact rpath_any W p pv x hm hx (hv.grow hbx.grow)
  obtain ⟨R, hR⟩ : ∃ R, R = trP p T x := ⟨_, rfl⟩
  have HRG : Hid (∀ i, i < bl.length → R.getD i [] = T.getD (bl.getD i 0 - p.pages).toNat []) := fun i hi => by
    rw [hR, hbl]; exact trP_get (by rw [← hbl]; exact hi)
  rw [← hR, ← hbl]
  obtain ⟨n, hn⟩ : ∃ n, n = bl.length := ⟨_, rfl⟩
  have HN := Hid.mk' hn
  have hn4 : 2 ≤ n ∧ n ≤ 4 := by rw [hn]; exact hs.len
  have HS : Hid (∀ i, i < n → ∃ j : Nat, bl.getD i 0 = p.pages + j ∧ j < T.length) := fun i hi => by
    have := hs.rng i (by omega)
    exact ⟨(bl.getD i 0 - p.pages).toNat, by omega, by omega⟩
  have HPI := Hid.mk' hpi
  have HOK := Hid.mk' hok
  obtain ⟨pg, hpg⟩ : ∃ pg : Nat, p.pages = (pg : Int) := ⟨p.pages.toNat, by omega⟩
  have hpgb : pg ≤ 4096 := by omega
  have HPG := Hid.mk' hpg
  have HTL : Hid (T.length ≤ 1000) := by show _ ≤ _; omega
  obtain ⟨tn, htn⟩ : ∃ tn, tn = T.length := ⟨_, rfl⟩
  have HTN := Hid.mk' htn
  obtain ⟨va, vc, hve, hvg⟩ := hps.gen
  rw [← htn] at hve hvg
  subst hve
  have HVG := Hid.mk' hvg
  have HCB : Hid (∀ w', Grow W w' → ∀ j v, (pcells p pv)[j]? = some v → w'.cell? ((⟨gp, 0, none⟩ : Addr).add j) = some v) := fun w' k => (hbx.blk.but k (fun h => h)).cells0
  have HCP : Hid (∀ w', Grow W w' → w'.cell? ⟨gp, 0, none⟩ = some (.int .i64 (pg : Int))) := fun w' k => by rw [← hpg]; exact (hbx.blk.but k (fun h => h)).cell 0
  unfold pval at HPT ⊢
  obtain ⟨N, hNN⟩ : ∃ N, N = (pcells p pv).toArray := ⟨_, rfl⟩
  rw [← hNN] at HW HPT ⊢
  have HNN := Hid.mk' hNN
  rw [← hn]
  clear hbx h1 h3 h4 h5 h6 hs hbl hpi hR hn hok hpg htn hps hvg hNN hm hv hT
  go_enter Tryd.func10, Tryd.ntmps10
  go_upto_region 1 with fail
  rw [← HW.out, ← HGP.out]
  have HLD := Hid.mk' (HCB.out W (But.refl _ _))
  go_wp2_with (first
    | (refine wpList_load_cells rfl _ _ rfl ⟨gp, 0, none⟩ rfl (pcells p pv) _ HLD.out Tryd.underlying25 rfl iPl ?_)
    | fail)
  rw [← HNN.out]
  refine Calls.mono HPT.out ?_
  rintro e w1 ⟨bv, rfl, hown, hg1⟩
  have hnums : Nums w1 bv bl := Nums.ofRow hown.row HPI.out (by rw [← HN.out]; omega)
  obtain ⟨nb, no, nc, hbv, hnc, -, hcell⟩ := hnums.at (by rw [← HN.out]; omega)
  rw [← HN.out] at hbv hnc hcell
  subst hbv
  have HNC := Hid.mk' hcell
  have HG1 := Hid.mk' hg1
  have H0 : Hid (Nb w1.heap.size w1 (.slice none 0 0) 0 (fun _ => 0) (fun i => R.getD i [])) := Nb.nil _ _ _ _
  clear hown hg1 hnums hcell HPT HLD
  go_upto_region 4 with fail
  go_loopw [9, 10] (fun xv iv wr => ∃ (k : Nat) (r : Value), r = xv ∧ k ≤ n ∧ iv = .int .i64 k ∧ ∃ G, Nb w1.heap.size wr r k G (fun i => R.getD i []) ∧ Grow w1 wr) (fun _ iv _ => n - (intOf iv).toNat)
  case atStart => exact ⟨0, _, rfl, Nat.zero_le _, rfl, _, H0.out, But.refl _ _⟩
  case round =>
    obtain ⟨k, r, hr, hk, rfl, G, hnb, hgr⟩ := hrel
    subst hr
    have HNB := Hid.mk' hnb
    have HGR := Hid.mk' hgr
    obtain ⟨ra, rc, hre⟩ := hnb.len
    subst hre
    by_cases hlt : k < n
    · obtain ⟨j, hj, hjt⟩ := HS.out k hlt
      have hjt1 := hjt
      rw [← HTN.out] at hjt
      obtain ⟨tb, to, hta, -, htc⟩ := HVG.out (by omega)
      subst hta
      obtain ⟨u, hu, hbs⟩ := htc j hjt
      obtain ⟨y, hy⟩ : ∃ y, y = T.getD j [] := ⟨_, rfl⟩
      have hyo := HOK.out y (by rw [hy]; simp [List.getD, hjt1])
      rw [← hy] at hbs
      have HX : Hid (R.getD k [] = y) := by
        show _ = _
        rw [HRG.out k (by rw [← HN.out]; exact hlt), hj, hy]
        congr 1
        omega
      have hwg : Grow w wr := (HG.out.trans HG1.out).trans hgr
      have hcb : ∀ z, But (fun b => w1.heap.size ≤ b) wr z → z.cell? ⟨nb, no + k, none⟩ = some (.int .i64 ((pg : Int) + (j : Int))) := fun z kz => by
        have := HNC.out k hlt
        rw [hj, HPG.out] at this
        exact but_cell kz (grow_cell hgr this) (by have := cell_lt this; omega)
      have HCBL := Hid.mk' hcb
      have HCU : Hid (∀ z, But (fun b => w1.heap.size ≤ b) wr z → z.cell? ⟨tb, to + j, none⟩ = some u) := fun z kz => but_cell kz (grow_cell hwg hu) (by have := cell_lt hu; have := (HG.out.trans HG1.out).size; omega)
      have HCPG : Hid (∀ z, But (fun b => w1.heap.size ≤ b) wr z → z.cell? ⟨gp, 0, none⟩ = some (.int .i64 (pg : Int))) := fun z kz => by
        have h0 := HCP.out w1 HG1.out
        exact but_cell kz (grow_cell hgr h0) (by have := cell_lt h0; omega)
      have HBS : Hid (∀ z, Grow wr z → Bs z u y) := fun z kz => hbs.but (hwg.trans kz) (fun _ _ _ h => h)
      have HYO := Hid.mk' hyo
      obtain ⟨ua, un, uc, rfl⟩ := hbs.sl
      have hjb : j < 1000 := by have := HTL.out; omega
      have hws : IntKind.i64.wrap ((pg : Int) + (j : Int) - (pg : Int)) = (j : Int) := by rw [wrapI (by omega) (by omega)]; omega
      have HSE : Hid (wr.heap.size ≥ w1.heap.size) := hgr.size
      clear htc hu hbs hy hyo hwg hcb hj hjt1 hnb hgr
      go_upto_region 6 with fail
      refine region_chain [([0, 1, 2, 3, 4, 5, 6, 7, 8, 9, 10], 11), ([], 12), ([], 13)] [14] (But (fun b => w1.heap.size ≤ b) wr) (Grow wr) (by kernel_rfl) (by kernel_rfl) (fun _ _ h k => h.trans k) (fun _ h => h.mono (fun _ _ h => h.elim)) ((But.refl _ wr).drew) ?_
      intro ι hne X hX
      have c1 : ∀ z, (X z).cell? ⟨nb, no + k, none⟩ = some (.int .i64 ((pg : Int) + (j : Int))) := fun z => HCBL.out (X z) (hX z)
      have c2 : ∀ z, (X z).cell? ⟨gp, 0, none⟩ = some (.int .i64 (pg : Int)) := fun z => HCPG.out (X z) (hX z)
      have c3 : ∀ z, (X z).cell? ⟨tb, to + j, none⟩ = some (.slice ua un uc) := fun z => HCU.out (X z) (hX z)
      iterate 11 (refine still_step rfl (fun K hK => ?_); go_simp; refine hK _ ?_; clear hK K)
      refine still_nil ?_
      clear hX hne c1 c2 c3
      refine turn_call rfl (by kernel_rfl) (fun q w' => ∃ g cp, q = .slice (some ⟨g, 0, none⟩) 256 cp ∧ El w' q g y ∧ wr.heap.size ≤ g ∧ Grow wr w') (fun _ w' => But (fun b => w1.heap.size ≤ b) wr w') (fun _ w1 w2 h k => by
        obtain ⟨g, cp, h1, h2, h3, h4⟩ := h
        exact ⟨g, cp, h1, h2.but k (fun h => h), h3, h4.trans k⟩) (fun _ _ h => by obtain ⟨_, _, _, _, _, h4⟩ := h; exact h4.mono (fun _ _ h => h.elim)) (.inr (fun _ _ h => h)) 26 #[.slice ua un uc] (fun _ => by kernel_rfl) ?_ ?_
      · intro w6 hw6
        refine (copy_any (HBS.out w6 hw6) (by rw [HYO.out.1]; decide)).mono ?_
        rintro e w7 ⟨q, rfl, ho1, hb1⟩
        obtain ⟨g, cp, R', rfl, hge, hbk, hRl, hc1, hc2⟩ := ho1.opn (by have := HYO.out.1; omega)
        rw [HYO.out.1] at hRl hc1 ⊢
        exact ⟨_, rfl, g, cp, rfl, ⟨cp, R', rfl, hc1, HYO.out.1, HYO.out.2, hbk⟩, Nat.le_trans hw6.size hge, hw6.trans (But.of hb1)⟩
      rintro q ⟨wq, g1, cp, rfl, -, hge1, -⟩ Y hY
      have HGE := Hid.mk' hge1
      clear hge1 wq
      go_simp
      refine hY _ ?_
      clear hY Y
      intro ι hne X hX
      refine still_nil ?_
      clear hX hne
      refine turn_run rfl rfl (fun r w' => ∃ gr, r = .slice (some ⟨gr, 0, none⟩) 1 1 ∧ Blk w' gr 22 [.slice (some ⟨g1, 0, none⟩) 256 cp] ∧ El w' (.slice (some ⟨g1, 0, none⟩) 256 cp) g1 y ∧ Grow wr w') (fun _ w' => But (fun b => w1.heap.size ≤ b) wr w') (fun _ w1 w2 h k => by
        obtain ⟨gr, h1, h2, h3, h4⟩ := h
        exact ⟨gr, h1, h2.but k (fun h => h), h3.but k (fun h => h), h4.trans k⟩) (fun _ _ h => by obtain ⟨_, _, _, _, h4⟩ := h; exact h4.mono (fun _ _ h => h.elim)) (.inr (fun _ _ h => h)) ?_ ?_
      · rintro w6 ⟨g2, cp2, e, hel, -, hw6⟩
        have hel2 : El w6 (.slice (some ⟨g1, 0, none⟩) 256 cp) g1 y := by
          obtain ⟨c3, R3, e3, h3⟩ := hel
          simp only [Value.slice.injEq, Option.some.injEq, Addr.mk.injEq, and_true, true_and] at e e3
          obtain ⟨rfl, rfl⟩ := e
          exact ⟨c3, R3, by rw [e3.2], h3⟩
        have hal : Grow w6 (w6.alloc (.cells (Value.slice (some ⟨g1, 0, none⟩) 256 cp).cells 22)) := (But.refl _ w6).alloc _
        refine turn_row1 (v := .slice (some ⟨g1, 0, none⟩) 256 cp) (e := 22) Tryd.underlying26 infS2 (by decide) (by decide) rfl rfl rfl ⟨w6.heap.size, rfl, ?_, hel2.but hal (fun h => h), hw6.trans hal⟩
        exact Blk.new rfl
      rintro q2 ⟨wq, g2, rfl, -⟩ Y hY
      clear wq
      go_simp
      refine hY _ ?_
      clear hY Y
      intro ι hne X hX
      refine still_nil ?_
      clear hX hne
      refine turn_run rfl rfl (fun r w' => (∃ G', Nb w1.heap.size w' r (k + 1) G' (fun i => R.getD i [])) ∧ Grow w1 w' ∧ But (fun b => w1.heap.size ≤ b) wr w') (fun _ w' => But (fun b => w1.heap.size ≤ b) wr w') (fun _ w1 w2 h k => ⟨by obtain ⟨G', h1⟩ := h.1; exact ⟨G', h1.grow k⟩, h.2.1.trans k, h.2.2.trans (k.mono (fun _ _ h => h.elim))⟩) (fun _ _ h => h.2.2) (.inr (fun _ _ h => h)) ?_ ?_
      · rintro w6 ⟨g3, e, hblk, hel, hw6⟩
        simp only [Value.slice.injEq, Option.some.injEq, Addr.mk.injEq, and_true] at e
        subst e
        have hnb6 := HNB.out.grow hw6
        refine turn_append (v := .slice ra k rc) (n := k) (xs := (List.range k).map hnb6.ex.choose) (news := [.slice (some ⟨g1, 0, none⟩) 256 cp]) Tryd.underlying26 infS2 rfl (by decide) rfl rfl hnb6.row rfl rfl (fun j u hj => hblk.cells0 j u hj) (fun u hu => by rw [show u = .slice (some ⟨g1, 0, none⟩) 256 cp by simpa using hu]; rfl) (by omega) (by decide) ?_
        intro v5 w5 hap
        have hlow : ∀ i, i < k → G i ≠ g1 := fun i hi e => by
          obtain ⟨V, -, hV⟩ := HNB.out.ex
          have := (hV i hi).lt
          have := HGE.out
          omega
        have hro : (Value.slice ra k rc).ownBlock ≠ some g1 := fun e => by
          have := (HNB.out.row.lt _ e).2
          have := HGE.out
          omega
        have hs6 := hw6.size
        have hpu := Nb.push hnb6 hel (by have := HGE.out; have := HSE.out; omega) (by have := HSE.out; omega) hlow hro hap
        refine ⟨⟨_, hpu.same (fun i _ => ?_)⟩, (HGR.out.trans hw6).then hap.but (fun i hi e => ?_), (hw6.mono (fun _ _ h => h.elim)).trans (hap.but.mono (fun i _ e => (HNB.out.rnew i e).1))⟩
        · unfold upd
          by_cases hik : i = k
          · rw [if_pos hik, hik]; exact HX.out.symm
          · rw [if_neg hik]
        · have := (HNB.out.rnew i e).1
          omega
      rintro q3 ⟨wq, -, -⟩ Y hY
      clear wq
      go_simp
      refine hY _ ?_
      clear hY Y
      intro ι hne X hX
      refine still_step rfl (fun K hK => ?_); go_simp; refine hK _ ?_; clear hK K
      refine still_nil ?_
      clear hX hne
      rintro w7 ⟨⟨G', hnb7⟩, hg7, -⟩
      go_wp2
      refine ⟨⟨k + 1, q3, rfl, by omega, by go_num, G', hnb7, hg7⟩, by simp [intOf]; omega⟩
    · have hkn : k = n := by omega
      subst hkn
      clear hnb hgr
      go_wp2
      go_ret
      exact ⟨_, G, rfl, HNB.out.mono (by have := HG1.out.size; have := HG.out.size; omega), (HG.out.trans HG1.out).trans HGR.out⟩
end Go.Proofs.YtmlladpmecclbaaDoor
/- What a walk is told of a slice of slices of bytes that came in. -/
namespace Go.Proofs.YtmlladpmecclbaaDoor
open Go.ChangeShapes Go.WideShapes Go.ChangeAt Go.RowKit Go.Deep

section
variable {H : Type} {enc : TypeId × Value → H} {P : Program} {w : World} {base : Nat} {spare : Nat → Bool} {held : Bool}

theorem weightsAll_mem {e : TypeId} : ∀ {l : List (DataW H)} {d : DataW H}, d ∈ l → ∀ n ∈ d.weights P e, n ∈ DataW.weightsAll P e l
  | x :: r, d, hd, n, hn => by
    simp only [DataW.weightsAll, List.mem_append]
    rcases List.mem_cons.1 hd with rfl | hd
    · exact .inl hn
    · exact .inr (weightsAll_mem hd n hn)

/-- Bytes inside of what came in. -/
theorem view_inner {t e : TypeId} {v : Value} {d : DataW H} {ps : List MemPlace} {fuel : Nat}
    (hu : P.underlying t = some (.slice e)) (hf : P.underlying e = some (.int .u8)) (hc : P.cellsOf e = 1) (hb : P.bytesOf e = 1)
    (h : DataW.trod enc P w base spare held fuel t [v] = some (d, ps)) (hlt : ∀ x ∈ ps, x.block < w.heap.size) (hsz : ∀ n ∈ d.weights P t, n ≤ reachBytes) : ∃ zs, Bs w v zs ∧ zs.length ≤ 140737488351232 := by
  rcases open_slice1 hu hc h with ⟨hcs, _⟩ | ⟨a, len, cap, m, n, V, D, Pl, hcs, _, hl, hm, hmm, hx, hcell⟩
  · simp only [List.cons.injEq, and_true] at hcs
    subst hcs
    exact ⟨[], Bs.nil _, by simp⟩
  · simp only [List.cons.injEq, and_true] at hcs
    subst hcs
    simp only [Prod.mk.injEq] at hx
    obtain ⟨rfl, rfl⟩ := hx
    have hlm : len ≤ m := by rw [hmm]; split <;> omega
    have hreach : len * 1 ≤ 140737488351232 := by
      have := hsz ((len + (m - len)) * 1) (by simp [DataW.weights, hu, hb])
      simp only [reachBytes] at this
      omega
    have hfl : ∀ i, i < len → ∃ b : Nat, V i = .int .u8 (b : Int) ∧ b < 256 := by
      intro i hi
      obtain ⟨b, hb1, _, hw0⟩ := DataW.trod_int hf (hcell i (by omega)).2
      obtain ⟨hw, hw2⟩ : 0 ≤ b ∧ b < 256 := by
        have h8 : IntKind.u8.min ≤ b ∧ b ≤ IntKind.u8.max := by simpa [Lit.wf, go_sem] using hw0
        have e1 : IntKind.u8.min = 0 := rfl
        have e2 : IntKind.u8.max = 255 := rfl
        omega
      simp only [List.cons.injEq, and_true] at hb1
      exact ⟨b.toNat, by rw [hb1, Int.toNat_of_nonneg hw], by omega⟩
    obtain ⟨B, hB⟩ := choose_lt (α := Nat) (p := fun i b => V i = .int .u8 (b : Int) ∧ b < 256) hfl
    refine ⟨(List.range len).map B, ⟨?_, by simp; omega, ?_⟩, by simpa using hreach⟩
    · intro z hz
      obtain ⟨i, hi, rfl⟩ := List.mem_map.1 hz
      exact (hB i (by simpa using hi)).2
    · by_cases h0 : len = 0
      · subst h0; exact .inl ⟨by simp, .inr ⟨_, _, rfl⟩⟩
      · right
        obtain ⟨b, off, spot⟩ := a
        have hspot : spot = none := by simpa [Addr.add] using World.cell?_spot (hcell 0 (by omega)).1
        subst hspot
        refine ⟨by simp; omega, b, off, cap, by simp, by simpa using hl, hlt (.cell b off) (List.mem_append_left _ (MemPlace.mem_row.2 ⟨0, by omega, by simp⟩)), ?_⟩
        intro i hi
        have hi' : i < len := by simpa using hi
        rw [← add_plain, (hcell i (by omega)).1, (hB i hi').1]
        simp [hi']

/-- Slices of bytes that came in. -/
theorem view_parts {t e q : TypeId} {v : Value} {d : DataW H} {ps : List MemPlace} {r : Reach} {b0 : Nat} {ts : List TypeId} {ds : List (DataW H)} {j : Nat}
    (hu : P.underlying t = some (.slice e)) (he : P.underlying e = some (.slice q)) (hq : P.underlying q = some (.int .u8)) (hce : P.cellsOf e = 1) (hcq : P.cellsOf q = 1) (hbe : P.bytesOf e = 24) (hbq : P.bytesOf q = 1)
    (hval : Value.okWide P w r b0 t v) (h : DataW.Trod enc P w base spare held t v d ps) (hlt : ∀ x ∈ ps, x.block < w.heap.size)
    (hsz : (DataW.weightsEach P ts ds).all (· ≤ reachBytes) = true) (ht : ts[j]? = some t) (hd : ds[j]? = some d) :
    ∃ xss, Ps w v xss ∧ xss.length * 24 ≤ 140737488351232 ∧ ∀ x ∈ xss, x.length ≤ 140737488351232 := by
  obtain ⟨a0, len, cap, rfl⟩ := okWide_slice hu hval
  obtain ⟨fuel, hf1⟩ := h
  rcases open_slice1 hu hce hf1 with ⟨hcs, _⟩ | ⟨a, len', cap', m, n, V, D, Pl, hcs, _, hl, hm, hmm, hx, hcell⟩
  · simp [Value.cells] at hcs
    obtain ⟨rfl, rfl, rfl⟩ := hcs
    exact ⟨[], .inl ⟨rfl, .inl rfl⟩, by simp, by simp⟩
  · simp [Value.cells] at hcs
    obtain ⟨rfl, rfl, rfl⟩ := hcs
    simp only [Prod.mk.injEq] at hx
    obtain ⟨rfl, rfl⟩ := hx
    have hlm : len ≤ m := by rw [hmm]; split <;> omega
    have hreach : len * 24 ≤ 140737488351232 := by
      have := sized_slice hsz ht hd hu
      rw [hbe] at this
      simp only [List.length_map, List.length_range, reachBytes] at this
      omega
    have hfl : ∀ i, i < len → ∃ zs : List Nat, Bs w (V i) zs ∧ zs.length ≤ 140737488351232 := by
      intro i hi
      refine view_inner he hq hcq hbq (hcell i (by omega)).2 (fun x hx => hlt x ?_) (fun k hk => ?_)
      · exact List.mem_append_right _ (List.mem_flatMap.2 ⟨i, by simp; omega, hx⟩)
      · have hm2 : k ∈ (DataW.slice ((List.range len).map D) ((List.range (m - len)).map fun j => D (len + j))).weights P t := by
          simp only [DataW.weights, hu]
          refine List.mem_cons_of_mem _ (List.mem_append_left _ (weightsAll_mem (d := D i) ?_ k hk))
          exact List.mem_map.2 ⟨i, by simpa using hi, rfl⟩
        have := List.all_eq_true.1 hsz _ (DataW.weights_mem_each ht hd k hm2)
        simpa using this
    obtain ⟨B, hB⟩ := choose_lt (α := List Nat) (p := fun i zs => Bs w (V i) zs ∧ zs.length ≤ 140737488351232) hfl
    refine ⟨(List.range len).map B, ?_, by simpa using hreach, ?_⟩
    · by_cases h0 : len = 0
      · subst h0; exact .inl ⟨by simp, .inr ⟨_, _, rfl⟩⟩
      · right
        obtain ⟨b, off, spot⟩ := a
        have hspot : spot = none := by simpa [Addr.add] using World.cell?_spot (hcell 0 (by omega)).1
        subst hspot
        refine ⟨by simp; omega, b, off, cap, by simp, hlt (.cell b off) (List.mem_append_left _ (MemPlace.mem_row.2 ⟨0, by omega, by simp⟩)), ?_⟩
        intro i hi
        have hi' : i < len := by simpa using hi
        refine ⟨V i, ?_, ?_⟩
        · rw [← add_plain]; exact (hcell i (by omega)).1
        · have e : ((List.range len).map B).getD i [] = B i := by simp [List.getD, hi']
          rw [e]; exact (hB i hi').1
    · intro x hx
      obtain ⟨i, hi, rfl⟩ := List.mem_map.1 hx
      exact (hB i (by simpa using hi)).2
end
end Go.Proofs.YtmlladpmecclbaaDoor
/- Rows of slices of bytes put behind a row of one's own: append of a [][]byte, whatever it holds. -/
namespace Go.Proofs.YtmlladpmecclbaaDoor
open Go.RowKit

theorem infRS : (Tryd.prog.info? 22).map (fun i => (i.zero, i.size, i.bytes)) = some (some (.slice none 0 0), 1, 24) := by kernel_rfl
theorem exec_row0 {w : World} {o : Oper} {ρ : Operand → Value} (ho : o.op = .buildSlice 26 0 #[]) : (execOp ρ o).run Tryd.prog w = .ok (.value (.slice (some ⟨w.heap.size, 0, none⟩) 0 0)) (w.alloc (.cells #[] 22)) := by
  have h : (Instr.buildSlice 26 0 #[]).run Tryd.prog w = .ok (.slice (some ⟨w.heap.size, 0, none⟩) 0 0) (w.alloc (.cells #[] 22)) := by
    obtain ⟨i, hi, hz, hs, hby⟩ := info_parts infRS
    simp [Instr.buildSlice, run_underlying Tryd.underlying26, sizeOf, typeInfo, hi, newRow, Instr.fill]
    rw [show Array.range 0 = (#[] : Array Nat) from rfl]
    simp
  unfold execOp
  simp only [ho, List.map_toArray, List.map_nil, Sem.run_bind, h, Result.andThen_ok, Sem.run_pure]
theorem row0_own (w : World) (g : Nat) (hg : g = w.heap.size) : (w.alloc (.cells #[] 22)).ownsRow 0 22 1 (.slice (some ⟨g, 0, none⟩) 0 0) 0 [] := by
  have hb : Blk (w.alloc (.cells #[] 22)) g 22 [] := Blk.new hg.symm
  exact ⟨rfl, .inr ⟨g, 0, #[], rfl, Nat.zero_le _, hb, Nat.le_refl _, Nat.zero_le _, rfl, rfl⟩⟩
theorem cell_ltA {w : World} {a : Addr} {u : Value} (h : w.cell? a = some u) : a.block < w.heap.size := by
  rcases Nat.lt_or_ge a.block w.heap.size with hb | hb
  · exact hb
  · unfold World.cell? at h
    rw [Array.getElem?_eq_none hb] at h
    cases h
/-- The values of a row that holds bytes. -/
theorem Ps.vals {w : World} {u : Value} {xss : List (List Nat)} (h : Ps w u xss) : ∃ (L : List BE) (ao : Option Addr) (cap : Nat), L.map (·.2) = xss ∧ (∀ e ∈ L, Bs w e.1 e.2) ∧ u = .slice ao xss.length cap ∧ (xss.length = 0 ∨ ∃ ad, ao = some ad ∧ ∀ j z, (L.map (·.1))[j]? = some z → w.cell? (ad.add j) = some z) := by
  obtain ⟨ao, cap, rfl, hg⟩ := h.gen
  by_cases h0 : 0 < xss.length
  · obtain ⟨b, off, rfl, hb, hc⟩ := hg h0
    have hc' : ∀ i, ∃ u, i < xss.length → w.cell? ⟨b, off + i, none⟩ = some u ∧ Bs w u (xss.getD i []) := fun i => by
      by_cases hi : i < xss.length
      · obtain ⟨u, hu⟩ := hc i hi
        exact ⟨u, fun _ => hu⟩
      · exact ⟨undef, fun h => absurd h hi⟩
    obtain ⟨V, hV⟩ : ∃ V : Nat → Value, ∀ i, i < xss.length → w.cell? ⟨b, off + i, none⟩ = some (V i) ∧ Bs w (V i) (xss.getD i []) := ⟨fun i => (hc' i).choose, fun i => (hc' i).choose_spec⟩
    refine ⟨(List.range xss.length).map (fun i => (V i, xss.getD i [])), _, cap, ?_, fun e he => ?_, rfl, .inr ⟨_, rfl, fun j z hj => ?_⟩⟩
    · rw [List.map_map]
      apply List.ext_getElem (by simp)
      intro i h1 h2
      simp [List.getD, h2]
    · obtain ⟨i, hi, rfl⟩ := List.mem_map.1 he
      exact (hV i (List.mem_range.1 hi)).2
    · rw [List.map_map] at hj
      have hjl : j < xss.length := by
        have := (List.getElem?_eq_some_iff.1 hj).1
        simpa using this
      have : (some (V j) : Option Value) = some z := by rw [← hj]; simp [hjl]
      rw [addr_add, (hV j hjl).1, this]
  · have hx : xss = [] := List.eq_nil_of_length_eq_zero (by omega)
    subst hx
    exact ⟨[], ao, cap, rfl, fun e he => absurd he List.not_mem_nil, rfl, .inl rfl⟩
theorem exec_appendP {w0 w : World} {o : Oper} {ρ : Operand → Value} {v u : Value} {n : Nat} {xs : List Value} {xss : List (List Nat)} {x y : Operand} (ho : o.op = .call { callee := .builtin .append, args := #[x, y], argTypes := #[26, 26] }) (hx : ρ x = v) (hv : w.ownsRow 0 22 1 v n xs) (hy : ρ y = u) (hg : Grow w0 w) (hu : Ps w0 u xss) (hn : n + xss.length ≤ 1000000) :
    ∃ v' w', (execOp ρ o).run Tryd.prog w = .ok (.value v') w' ∧ ∃ L : List BE, L.map (·.2) = xss ∧ (∀ e ∈ L, Bs w0 e.1 e.2) ∧ Appd w w' 22 1 v v' (n + xss.length) (xs ++ L.map (·.1)) := by
  have hnil := hu
  obtain ⟨L, ao, cap, h1, h2, rfl, h3⟩ := hu.vals
  have hl : L.length = xss.length := by rw [← h1, List.length_map]
  have key : ∀ (ad : Addr), (Value.slice ao xss.length cap) = .slice (some ad) xss.length cap → (∀ j z, (L.map (·.1))[j]? = some z → w.cell? (ad.add j) = some z) → ∃ v' w', (execOp ρ o).run Tryd.prog w = .ok (.value v') w' ∧ ∃ L : List BE, L.map (·.2) = xss ∧ (∀ e ∈ L, Bs w0 e.1 e.2) ∧ Appd w w' 22 1 v v' (n + xss.length) (xs ++ L.map (·.1)) := fun ad e hc => by
    obtain ⟨v', w', hr, ha⟩ := exec_append (news := L.map (·.1)) Tryd.underlying26 infRS rfl (by decide) ho hx hv (hy.trans e) (by rw [List.length_map, hl, Nat.mul_one]) hc (fun z hz => by obtain ⟨q, hq, rfl⟩ := List.mem_map.1 hz; exact (h2 q hq).one) hn (by decide)
    exact ⟨v', w', hr, L, h1, h2, ha⟩
  rcases h3 with h0 | ⟨ad, rfl, hc⟩
  · have hx0 : xss = [] := List.eq_nil_of_length_eq_zero h0
    subst hx0
    have hL0 : L = [] := List.eq_nil_of_length_eq_zero hl
    subst hL0
    rcases hnil with ⟨-, e | ⟨a, cap', e⟩⟩ | ⟨hlt, -⟩
    · obtain ⟨i0, hi, hz0, hz1, hz2⟩ := info_parts infRS
      have hrun := run_append_owned_none (P := Tryd.prog) w 0 26 o.type 22 i0 1 Tryd.underlying26 hi v n xs hv
      refine ⟨v, w, ?_, [], rfl, fun e he => absurd he List.not_mem_nil, ⟨by simpa using hv, But.refl _ _, .inl rfl, fun k hk => ?_⟩⟩
      · unfold execOp
        simp only [ho, resolve, invoke, builtin, Sem.run_bind, Sem.run_pure, Result.andThen_ok, List.map_toArray, List.map_cons, List.map_nil, hx, hy, e, hrun]
      · obtain ⟨-, ⟨rfl, -⟩ | ⟨g, c, cu, rfl, -, hb, -⟩⟩ := hv
        · cases hk
        · cases hk; exact lt_of_block hb
    · simp only [Value.slice.injEq] at e
      obtain ⟨rfl, -, rfl⟩ := e
      exact key a rfl (fun j z hz => by simp at hz)
    · exact absurd hlt (by simp)
  · exact key ad rfl (fun j z hj => (World.cell?_of_block (hg.block _ (cell_ltA (hc j z hj)) (fun h => h))).trans (hc j z hj))
/-- An own row of slices that hold bytes. -/
theorem ps_row {w : World} {v : Value} {L : List BE} (h : w.ownsRow 0 22 1 v L.length (L.map (·.1))) (he : ∀ e ∈ L, Bs w e.1 e.2) : Ps w v (L.map (·.2)) := by
  have hr : RowOf w (fun _ => True) 22 1 v L.length (L.map (·.1)) := ⟨h, fun _ _ => trivial⟩
  obtain ⟨ao, cap, rfl, hrow⟩ := hr.shape
  by_cases h0 : 0 < L.length
  · obtain ⟨g, rfl, _, hg, hc⟩ := hrow h0
    refine .inr ⟨by simpa using h0, g, 0, cap, by rw [List.length_map], hg, fun i hi => ?_⟩
    rw [List.length_map] at hi
    refine ⟨(L[i]).1, ?_, ?_⟩
    · rw [Nat.zero_add]
      exact hc i _ (by simp [hi])
    · have := he (L[i]) (List.getElem_mem hi)
      simpa [List.getD, hi] using this
  · have : L = [] := List.eq_nil_of_length_eq_zero (by omega)
    subst this
    cases ao with
    | none =>
      obtain ⟨h1, ⟨e, _⟩ | ⟨g, c, cur, e, _⟩⟩ := h
      · exact .inl ⟨rfl, .inl e⟩
      · cases e
    | some a => exact .inl ⟨rfl, .inr ⟨a, cap, rfl⟩⟩
/-- A row put behind a row of one's own whose blocks are new. -/
theorem ps_app {w0 w w' : World} {v v' : Value} {L : List BE} {n : Nat} {xss : List (List Nat)} (hn : n = L.length) (hg : Grow w0 w) (hL : ∀ e ∈ L, Bs w0 e.1 e.2) (hb : ∀ k, v.ownBlock = some k → w0.heap.size ≤ k)
    (h : ∃ M : List BE, M.map (·.2) = xss ∧ (∀ e ∈ M, Bs w0 e.1 e.2) ∧ Appd w w' 22 1 v v' (n + xss.length) (L.map (·.1) ++ M.map (·.1))) :
    ∃ N : List BE, N.map (·.2) = L.map (·.2) ++ xss ∧ (∀ e ∈ N, Bs w0 e.1 e.2) ∧ w'.ownsRow 0 22 1 v' N.length (N.map (·.1)) ∧ Grow w0 w' ∧ ∀ k, v'.ownBlock = some k → w0.heap.size ≤ k := by
  obtain ⟨M, h1, h2, ha⟩ := h
  have hl : M.length = xss.length := by rw [← h1, List.length_map]
  refine ⟨L ++ M, by rw [List.map_append, h1], fun e he => ?_, ?_, hg.then ha.but (fun i hi e => by have := hb i e; omega), fun k hk => ?_⟩
  · rcases List.mem_append.1 he with he | he
    · exact hL e he
    · exact h2 e he
  · rw [List.map_append, List.length_append, hl, ← hn]; exact ha.own
  · rcases ha.at' with e | e
    · exact hb k (by rw [← e]; exact hk)
    · rw [e] at hk
      have := Option.some.inj hk
      have := hg.size
      omega
end Go.Proofs.YtmlladpmecclbaaDoor
/- TreeDigests: the walk. -/
namespace Go.Proofs.YtmlladpmecclbaaDoor
open Go.RowKit

/-- A log that is made new: whose its blocks are. -/
theorem own_new {w : World} {g : Nat} (hg : g = w.heap.size) : ∀ b, tagAt (fun _ => Tag.none) g .log b ≠ .none → w.heap.size ≤ b := fun b hb => by
  by_cases e : b = g
  · omega
  · exact absurd (by unfold tagAt; rw [if_neg e]) hb
end Go.Proofs.YtmlladpmecclbaaDoor
/- TreeBinds: the walk. -/
namespace Go.Proofs.YtmlladpmecclbaaDoor
open Go.RowKit

/-- What an operation on a log leaves of all that was there ahead of the log. -/
theorem LgOTo.on {B w w' : World} {own : Owner} {lv : Value} {P : List Pr} (h : LgOTo w own lv P w') (hg : Grow B w) (hn : ∀ b, own b ≠ .none → B.heap.size ≤ b) : Grow B w' ∧ ∃ own', LgO w' own' lv P ∧ ∀ b, own' b ≠ .none → B.heap.size ≤ b := by
  obtain ⟨own', q1, q2, q3⟩ := h.ex
  refine ⟨hg.then h.but (fun i hi e => absurd (hn i e) (by omega)), own', q3, fun b hb => ?_⟩
  by_cases hq : own' b = own b
  · exact hn b (by rw [← hq]; exact hb)
  · exact Nat.le_trans hg.size (q2 b hq)
theorem inp_inj {x : Int} {a b : List Nat} (h : inp x a = inp x b) : a = b := by
  unfold inp at h
  exact List.append_cancel_left h
/-- Two paths that are taken are one, or there is a clash. -/
theorem two_paths {p : Pn} {x : Int} {a b : List Bk} {root : List Nat} (ha : Fits p x a) (hb : Fits p x b) (ga : Good p (p.path x) a root) (gb : Good p (p.path x) b root) (hne : a ≠ b) {P Q R : List Pr} :
    ∃ i j, i < j ∧ j < (P ++ noteB (p.path x) a a.length ++ Q ++ noteB (p.path x) b b.length ++ R).length ∧ ck (P ++ noteB (p.path x) a a.length ++ Q ++ noteB (p.path x) b b.length ++ R) i j = true := by
  have hl : a.length = b.length := by rw [ha.2.1, hb.2.1]
  rcases binds (m := a.length) (A := fun i => a.getD i []) (B := fun i => b.getD i []) (D := fun i y => bd ((p.path x).getD i 0) y) (p := fun i => (p.par ((p.path x).getD i 0)).at'.toNat) (root := root) (fun i hi => ga i hi) (fun i hi => by have := gb i (by omega); rw [← hl] at this; exact this) with h | ⟨i, hi, h1, h2⟩
  · exact absurd (eq_of_getD2 hl h) hne
  · have e1 : (P ++ noteB (p.path x) a a.length ++ Q ++ noteB (p.path x) b b.length ++ R)[P.length + i]? = some (inp ((p.path x).getD i 0) (a.getD i []), bd ((p.path x).getD i 0) (a.getD i [])) := by
      rw [List.append_assoc, List.append_assoc, List.append_assoc, List.getElem?_append_right (by omega), List.getElem?_append_left (by rw [noteB_len]; omega), show P.length + i - P.length = i by omega, noteB_get hi]
    have e2 : (P ++ noteB (p.path x) a a.length ++ Q ++ noteB (p.path x) b b.length ++ R)[P.length + a.length + Q.length + i]? = some (inp ((p.path x).getD i 0) (b.getD i []), bd ((p.path x).getD i 0) (b.getD i [])) := by
      rw [List.append_assoc, List.getElem?_append_right (by simp [noteB_len]; omega), List.getElem?_append_left (by simp [noteB_len]; omega), show P.length + a.length + Q.length + i - (P ++ noteB (p.path x) a a.length ++ Q).length = i by (simp [noteB_len]; omega), noteB_get (by omega)]
    refine ⟨P.length + i, P.length + a.length + Q.length + i, by omega, by simp [noteB_len]; omega, ?_⟩
    unfold ck
    refine decide_eq_true ?_
    rw [List.getD_eq_getElem?_getD, List.getD_eq_getElem?_getD, e1, e2]
    exact ⟨h2, fun e => h1 (inp_inj e)⟩
end Go.Proofs.YtmlladpmecclbaaDoor
/- Arrays of bytes that came in, by value, as numbers. -/
namespace Go.Proofs.YtmlladpmecclbaaDoor
open Go.ChangeShapes Go.WideShapes Go.ChangeAt Go.RowKit Go.Deep

section
variable {H : Type} {enc : TypeId × Value → H} {P : Program} {w : World} {base : Nat} {spare : Nat → Bool} {held : Bool}

theorem mapM_eachN {α β : Type} {f : α → Option β} : ∀ (L : List α) (xs : List β), L.mapM f = some xs → ∀ a ∈ L, ∃ y, f a = some y
  | [], _, _, a, ha => by cases ha
  | b :: L, xs, h, a, ha => by
    rw [List.mapM_cons] at h
    simp only [bind, Option.bind_eq_some_iff, pure, Option.some.injEq] at h
    obtain ⟨y, hy, ys, hys, rfl⟩ := h
    rcases List.mem_cons.1 ha with rfl | ha
    · exact ⟨y, hy⟩
    · exact mapM_eachN L ys hys a ha
/-- A byte by its number. -/
theorem byte_num {b : Int} (h : (Lit.int .u8 b).wf = true) : ∃ x : Nat, b = (x : Int) ∧ x < 256 := by
  have h1 : IntKind.u8.min ≤ b ∧ b ≤ IntKind.u8.max := by simpa [Lit.wf] using h
  have e1 : IntKind.u8.min = 0 := rfl
  have e2 : IntKind.u8.max = 255 := rfl
  exact ⟨b.toNat, by omega, by omega⟩
theorem view_arrN {t e : TypeId} {n : Nat} {v : Value} {d : DataW H} {ps : List MemPlace} {r : Reach} {b0 : Nat} {ts : List TypeId} {ds : List (DataW H)} {j : Nat}
    (hu : P.underlying t = some (.array n e)) (hf : P.underlying e = some (.int .u8)) (hc : P.cellsOf e = 1) (hct : P.cellsOf t = n)
    (hval : Value.okWide P w r b0 t v) (h : DataW.Trod enc P w base spare held t v d ps) (_hlt : ∀ x ∈ ps, x.block < w.heap.size)
    (_hsz : (DataW.weightsEach P ts ds).all (· ≤ reachBytes) = true) (_ht : ts[j]? = some t) (_hd : ds[j]? = some d) : ∃ b : List Nat, v = .agg (u8s b).toArray ∧ b.length = n ∧ ∀ z ∈ b, z < 256 := by
  simp only [Value.okWide, hu] at hval
  obtain ⟨cs, rfl, hs, _⟩ := hval
  rw [hct] at hs
  obtain ⟨fuel, hf1⟩ := h
  cases fuel with
  | zero => simp [DataW.trod] at hf1
  | succ m =>
    rw [DataW.trod_step] at hf1
    unfold DataW.trodStep at hf1
    simp only [hu, Value.cells] at hf1
    rw [if_pos (by rw [hct]; simpa using hs)] at hf1
    simp only [Option.map_eq_some_iff] at hf1
    obtain ⟨xs, hxs, _⟩ := hf1
    have hel : ∀ i, i < n → ∃ x : Nat, cs[i]? = some (.int .u8 (x : Int)) ∧ x < 256 := by
      intro i hi
      obtain ⟨y, hy⟩ := mapM_eachN _ _ hxs i (by simpa using hi)
      obtain ⟨b, hb, _, hw⟩ := DataW.trod_int hf hy
      obtain ⟨x, rfl, hx⟩ := byte_num hw
      refine ⟨x, ?_, hx⟩
      rw [hc, Nat.mul_one] at hb
      have hlt : i < cs.toList.length := by simp; omega
      rw [List.drop_eq_getElem_cons hlt, List.take_succ_cons, List.take_zero] at hb
      simp only [List.cons.injEq, and_true] at hb
      rw [Array.getElem?_eq_getElem (by omega)]
      simpa using hb
    obtain ⟨B, hB⟩ := choose_lt (α := Nat) (p := fun i x => cs[i]? = some (.int .u8 (x : Int)) ∧ x < 256) hel
    refine ⟨(List.range n).map B, ?_, by simp, fun z hz => by
      obtain ⟨i, hi, rfl⟩ := List.mem_map.1 hz
      exact (hB i (List.mem_range.1 hi)).2⟩
    congr 1
    apply Array.ext_getElem?
    intro i
    by_cases hi : i < n
    · rw [(hB i hi).1]
      simp [u8s, hi]
    · rw [Array.getElem?_eq_none (by omega), Array.getElem?_eq_none (by simp [u8s]; omega)]
/-- A slice that came in has no more than it has room for. -/
theorem view_room {t e : TypeId} {v : Value} {d : DataW H} {ps : List MemPlace} {r : Reach} {b0 : Nat} (hu : P.underlying t = some (.slice e)) (hce : P.cellsOf e = 1)
    (hval : Value.okWide P w r b0 t v) (h : DataW.Trod enc P w base spare held t v d ps) : ∀ ao n c, v = .slice ao n c → n ≤ c := by
  obtain ⟨a0, len, cap, rfl⟩ := okWide_slice hu hval
  obtain ⟨fuel, hf1⟩ := h
  rintro ao n c e
  cases e
  rcases open_slice1 hu hce hf1 with ⟨hcs, _⟩ | ⟨a, len', cap', m, n, V, D, Pl, hcs, _, hl, hm, hmm, hx, hcell⟩
  · simp [Value.cells] at hcs
    omega
  · simp [Value.cells] at hcs
    omega
end
end Go.Proofs.YtmlladpmecclbaaDoor
