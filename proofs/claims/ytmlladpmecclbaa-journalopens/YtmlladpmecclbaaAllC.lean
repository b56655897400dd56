/- PlRef, JnRHead, RefJoin, RowRefRead, JnROpen, JnLaw, Parts, ArrNum, Turned. -/
import Derived.Test.YtmlladpmecclbaaAllB
import Derived.Test.YtmlladpmecclbaaAllA
import Derived.Deep.RegionWith
import Derived.BigRegion
import Derived.ProofKit
import Derived.OpenShut
import Derived.ChangeOld
import Derived.Below
/- The reference's begun, Of, Same. -/
namespace Go.Proofs.Ytmlladpmecclbaa
open Go.RowKit

set_option maxRecDepth 100000 in
theorem rbegun_any (w : World) (n s : Nat) (h1 : n ≤ 100000) (h0 : 1 ≤ s) (h2 : s ≤ 100000) : Calls Try.prog 32 #[.int .i64 (n : Int), .int .i64 (s : Int)] w fun e w' => e = .returned (.int .i64 (bg n s : Int)) ∧ w' = w := by
  obtain ⟨N, hN⟩ : ∃ N : Int, N = (n : Int) := ⟨_, rfl⟩
  obtain ⟨S, hS⟩ : ∃ S : Int, S = (s : Int) := ⟨_, rfl⟩
  rw [← hN, ← hS]
  have hN1 : N ≤ 100000 := by omega
  have hS0 : 1 ≤ S := by omega
  have hS1 : S ≤ 100000 := by omega
  have HB : Hid (∀ k : Nat, (k * s < n ↔ k < bg n s)) := fun k => by
    unfold bg
    rw [Nat.lt_div_iff_mul_lt (by omega)]
    omega
  have HNS := Hid.mk' (And.intro hN hS)
  have HBB : Hid (bg n s ≤ 200000) := Hid.mk' (Nat.le_trans (Nat.div_le_self _ _) (by omega))
  clear hN hS h1 h0 h2
  go_enter Try.func32, Try.ntmps32
  go_wp2
  go_loopw [5] (fun kv wr => ∃ k : Nat, kv = .int .i64 k ∧ k ≤ bg n s ∧ wr = w) (fun kv _ => bg n s - (intOf kv).toNat)
  case atStart => exact ⟨0, rfl, Nat.zero_le _, rfl⟩
  case round =>
    obtain ⟨k, rfl, hk, rfl⟩ := hrel
    have hki : (k : Int) ≤ 200000 := by have := HBB.out; omega
    have hmx : (k : Int) * S = ((k * s : Nat) : Int) := by rw [HNS.out.2, Int.natCast_mul]
    obtain ⟨M, hM⟩ : ∃ M : Int, M = ((k * s : Nat) : Int) := ⟨_, rfl⟩
    rw [← hM] at hmx
    have hM1 : M ≤ 30000000000 := by
      have h5 : k * s ≤ 200000 * 100000 := Nat.mul_le_mul (by omega) (by have := HNS.out.2; omega)
      omega
    have hM0 : 0 ≤ M := by omega
    by_cases hlt : k < bg n s
    · have hlti : M < N := by
        have := (HB.out k).2 hlt
        have := HNS.out.1
        omega
      clear hM
      go_wp2
      exact ⟨⟨k + 1, by go_num, by omega, trivial⟩, by simp [intOf]; omega⟩
    · have hlti : ¬ M < N := by
        have h6 : ¬ k * s < n := fun h => hlt ((HB.out k).1 h)
        have := HNS.out.1
        omega
      have hke : k = bg n s := by omega
      clear hM
      subst hke
      go_wp2
      go_ret
      exact ⟨rfl, rfl⟩
/-- What an append amid the reference's Of leaves. -/
theorem OfM.app {w wr wa w4 w5 : World} {g0 g1 rl : Nat} {r v4 : Value} {A : List Nat} {m m2 : Nat} {p : Pn} (h : OfM w wr g0 g1 r (A ++ [m]) p) (hrl : rl = A.length + 1) (ha : Grow wr wa) (hap : Appd wa w4 3 1 r v4 (rl + 1) (numv (toI (A ++ [m])) ++ numv [(m2 : Int)])) (hb : Blk w5 g1 48 (pcells p v4)) (k : But (· = g1) w4 w5) : OfM w w5 g0 g1 v4 ((A ++ [m]) ++ [m2]) p := by
  have hl : (toI (A ++ [m])).length = rl := by rw [toI_len, List.length_append, List.length_singleton, hrl]
  rw [← hl] at hap
  obtain ⟨h5, h6⟩ := (h.own.grow ha).more hap (h.grow.trans ha)
  have hn : ∀ k, v4.ownBlock = some k → k ≠ g0 ∧ k ≠ g1 := fun j hj => by
    rcases hap.at' with e | e
    · exact h.nv j (by rw [← e]; exact hj)
    · rw [e] at hj
      have := Option.some.inj hj
      have := ha.size
      have := h.one.lt
      have := h.zero.lt
      exact ⟨by omega, by omega⟩
  refine ⟨hb, ((h.zero.but ha (fun h => h)).but hap.but (fun e => (h.nv g0 e).1 rfl)).but k h.ne.1, ?_, h6.then k (fun j hj e => by have := h.ne.2.2; omega), h.ne, hn⟩
  rw [show toI ((A ++ [m]) ++ [m2]) = toI (A ++ [m]) ++ [(m2 : Int)] by unfold toI; rw [List.map_append]; rfl]
  exact h5.but k (fun j hj e => (hn j hj).2 e)
set_option maxRecDepth 100000 in
theorem rof_not (w : World) (x y : Int) (h : ¬ (1 ≤ x ∧ x ≤ 4096 ∧ 1 ≤ y ∧ y ≤ 256)) : Calls Try.prog 18 #[.int .i64 x, .int .i64 y] w fun e w' => e = .returned (.tuple #[pval Pn.zero noS, .int .i64 1]) ∧ Grow w w' := by
  obtain ⟨g0, hg0⟩ : ∃ g, g = w.heap.size := ⟨_, rfl⟩
  obtain ⟨W0, hW0⟩ : ∃ W0, W0 = w.alloc (.cells (pcells Pn.zero noS).toArray 48) := ⟨_, rfl⟩
  have hT0 : Grow w W0 := by rw [hW0]; exact (But.refl _ w).alloc _
  have hB0 : Blk W0 g0 48 (pcells Pn.zero noS) := by rw [hW0]; exact Blk.new hg0.symm
  have HT0 := Hid.mk' hT0
  have HB0 := Hid.mk' hB0
  have HG := Hid.mk' hg0
  have HGE : Hid (w.heap.size ≤ g0) := Hid.mk' (by omega)
  have HW := Hid.mk' hW0
  clear hg0 hW0 hT0 hB0
  rcases (by omega : x < 1 ∨ (¬ x < 1 ∧ 4096 < x) ∨ (¬ x < 1 ∧ ¬ 4096 < x ∧ y < 1) ∨ (¬ x < 1 ∧ ¬ 4096 < x ∧ ¬ y < 1 ∧ 256 < y)) with h1 | ⟨h1, h2⟩ | ⟨h1, h2, h3⟩ | ⟨h1, h2, h3, h4⟩
  all_goals
    clear h
    go_enter Try.func18, Try.ntmps18
    go_upto_region 1 with (first
      | (refine wpList_runH rfl (exec_allocF rfl (zPl _)) ?_)
      | fail)
    rw [← HW.out, ← HG.out]
    clear HW HG
    go_upto_region 2 with fail
    go_wp2_with (first
      | (refine wpList_store_at rfl _ _ _ rfl g0 0 (pcells Pn.zero noS) rfl rfl 48 [] (pcells Pn.zero noS) [] (by simpa using HB0.out) rfl rfl iPl (pcells_one _ rfl) ?_; intro w3 hb3 hbut3; rw [List.nil_append, List.append_nil] at hb3)
      | fail)
    refine bodyPost_ret (results_plan_tmp rfl _ _ g0 _ _ _ _ rfl hb3 Try.underlying48 rfl iPl rfl) rfl ⟨rfl, ?_⟩
    exact HT0.out.then hbut3 (fun b hb e => by have := HGE.out; omega)
set_option maxRecDepth 100000 in
set_option maxHeartbeats 4000000 in
theorem rof_any (w : World) (n b : Nat) (h1 : 1 ≤ n) (h2 : n ≤ 4096) (h3 : 1 ≤ b) (h4 : b ≤ 256) : Calls Try.prog 18 #[.int .i64 (n : Int), .int .i64 (b : Int)] w (OfTo w n b) := by
  obtain ⟨g0, hg0⟩ : ∃ g, g = w.heap.size := ⟨_, rfl⟩
  obtain ⟨W0, hW0⟩ : ∃ W0, W0 = w.alloc (.cells (pcells Pn.zero noS).toArray 48) := ⟨_, rfl⟩
  have hT0 : Grow w W0 := by rw [hW0]; exact (But.refl _ w).alloc _
  have hB0 : Blk W0 g0 48 (pcells Pn.zero noS) := by rw [hW0]; exact Blk.new hg0.symm
  obtain ⟨g1, hg1⟩ : ∃ g, g = W0.heap.size := ⟨_, rfl⟩
  obtain ⟨W1, hW1⟩ : ∃ W1, W1 = W0.alloc (.cells (pcells Pn.zero noS).toArray 48) := ⟨_, rfl⟩
  have hT1 : Grow w W1 := by rw [hW1]; exact hT0.alloc _
  have hB1 : Blk W1 g1 48 (pcells Pn.zero noS) := by rw [hW1]; exact Blk.new hg1.symm
  have hB01 : Blk W1 g0 48 (pcells Pn.zero noS) := by rw [hW1]; exact hB0.but ((But.refl (fun _ => False) W0).alloc _) (fun h => h)
  have HNE : Hid (g0 ≠ g1 ∧ w.heap.size ≤ g0 ∧ w.heap.size ≤ g1) := by
    have := hB0.lt
    have := hT0.size
    exact ⟨by omega, by omega, by omega⟩
  have HT1 := Hid.mk' hT1
  have HB1 := Hid.mk' hB1
  have HB01 := Hid.mk' hB01
  have HG0 := Hid.mk' hg0
  have HG1 := Hid.mk' hg1
  have HW0 := Hid.mk' hW0
  have HW1 := Hid.mk' hW1
  obtain ⟨c, hc⟩ : ∃ c, c = bg n 16 := ⟨_, rfl⟩
  have hc1 : 1 ≤ c := by rw [hc]; unfold bg; omega
  have hc2 : c ≤ 256 := by rw [hc]; unfold bg; omega
  obtain ⟨L, hL⟩ : ∃ L, L = lvs c := ⟨_, rfl⟩
  have hLL := lvs_le hc1 hc2
  rw [← hL] at hLL
  obtain ⟨nd, hnd⟩ : ∃ nd, nd = L.sum := ⟨_, rfl⟩
  obtain ⟨q, hq⟩ : ∃ q : Nat, q = 12 + 4 * b := ⟨_, rfl⟩
  obtain ⟨hs, hhs⟩ : ∃ hs, hs = bg q 256 := ⟨_, rfl⟩
  have hsb : hs ≤ 5 := by rw [hhs]; unfold bg; omega
  obtain ⟨hd, hhd⟩ : ∃ hd, hd = n + c + nd := ⟨_, rfl⟩
  have HPL : Hid (plan n b = ⟨n, b, c, toI L, nd, hd, hs, (hd + hs : Nat), (hd + hs + b : Nat), (hd + hs + b + b : Nat)⟩) := by
    subst hhd hhs hq hnd hL hc
    rfl
  have HBG1 := Hid.mk' (fun w => rbegun_any w n 16 (by omega) (by decide) (by decide))
  have HBG2 := Hid.mk' (fun w => rbegun_any w q 256 (by omega) (by decide) (by decide))
  have HBG3 := Hid.mk' (fun w => rbegun_any w c 8 (by omega) (by decide) (by decide))
  obtain ⟨m0, hm0⟩ : ∃ m0, m0 = bg c 8 := ⟨_, rfl⟩
  rw [← hm0] at HBG3
  have HLE : Hid (L = lvN 3 m0 ∧ 1 ≤ m0 ∧ m0 ≤ 8 ^ 3) := Hid.mk' ⟨by rw [hL, hm0]; rfl, by rw [hm0]; exact bg_pos hc1, by rw [hm0]; exact bg8 (k := 3) (by omega)⟩
  rw [← hc] at HBG1
  rw [← hhs] at HBG2
  have HLL := Hid.mk' hLL
  have HND := Hid.mk' hnd
  have en : (n : Int) ≤ 4096 := by omega
  have en1 : (1 : Int) ≤ (n : Int) := by omega
  have eb : (b : Int) ≤ 256 := by omega
  have eb1 : (1 : Int) ≤ (b : Int) := by omega
  have n1 : ¬ (n : Int) < 1 := by omega
  have n2 : ¬ (4096 : Int) < (n : Int) := by omega
  have b1 : ¬ (b : Int) < 1 := by omega
  have b2 : ¬ (256 : Int) < (b : Int) := by omega
  have ec : (c : Int) ≤ 256 := by omega
  have hds : hd ≤ 4389 := by have := hLL.2.2.1; omega
  have HQ : Hid ((12 : Int) + 4 * (b : Int) = (q : Int)) := Hid.mk' (by omega)
  have HSM : Hid ((n : Int) + (c : Int) + (nd : Int) = (hd : Int) ∧ (hd : Int) + (hs : Int) = ((hd + hs : Nat) : Int) ∧ ((hd + hs : Nat) : Int) + (b : Int) = ((hd + hs + b : Nat) : Int) ∧ ((hd + hs + b : Nat) : Int) + (b : Int) = ((hd + hs + b + b : Nat) : Int)) := ⟨by omega, by omega, by omega, by omega⟩
  have HBD : Hid ((nd : Int) ≤ 37 ∧ (hd : Int) ≤ 4389 ∧ (hs : Int) ≤ 5) := ⟨by have := hLL.2.2.1; omega, by omega, by omega⟩
  clear h1 h2 h3 h4 hg0 hg1 hW0 hW1 hT0 hT1 hB0 hB1 hB01 hc hc1 hc2 hL hLL hnd hq hhs hsb hhd hds hm0
  go_enter Try.func18, Try.ntmps18
  go_upto_region 1 with (first
    | (refine wpList_runH rfl (exec_allocF rfl (zPl _)) ?_)
    | fail)
  rw [← HW0.out, ← HG0.out]
  clear HW0 HG0
  go_upto_region 4 with (first
    | (refine wpList_runH rfl (exec_allocF rfl (zPl _)) ?_; rw [← HW1.out, ← HG1.out])
    | fail)
  clear HW1 HG1
  have HX1 := HB1
  have HZ1 := HB01
  clear HB1 HB01
  go_upto_region 5 with (first
    | (refine wpList_store1 (g := g1) (i := 0) (v := .int .i64 (n : Int)) rfl iIn rfl rfl rfl rfl HX1.out (show 0 < 10 by decide) ?_; intro w2 hb hbut)
    | fail)
  have HX2 : Hid (Blk w2 g1 48 (pcells ⟨n, 0, 0, [], 0, 0, 0, 0, 0, 0⟩ noS)) := hb
  have HZ2 := Hid.mk' (HZ1.out.but hbut HNE.out.1)
  have HT2 : Hid (Grow w w2) := HT1.out.then hbut (fun j hj e => by have := HNE.out.2.2; omega)
  clear hb hbut HX1 HZ1 HT1
  go_upto_region 6 with (first
    | (refine wpList_store1 (g := g1) (i := 1) (v := .int .i64 (b : Int)) rfl iIn rfl rfl rfl rfl HX2.out (show 1 < 10 by decide) ?_; intro w3 hb hbut)
    | fail)
  have HX3 : Hid (Blk w3 g1 48 (pcells ⟨n, b, 0, [], 0, 0, 0, 0, 0, 0⟩ noS)) := hb
  have HZ3 := Hid.mk' (HZ2.out.but hbut HNE.out.1)
  have HT3 : Hid (Grow w w3) := HT2.out.then hbut (fun j hj e => by have := HNE.out.2.2; omega)
  clear hb hbut HX2 HZ2 HT2
  go_wp2_with fail
  refine Calls.mono (HBG1.out _) ?_
  rintro e w' ⟨rfl, hw⟩
  have h3 := hw.symm
  subst h3
  clear hw HBG1
  go_upto_region 7 with (first
    | (refine wpList_store1 (g := g1) (i := 2) (v := .int .i64 (c : Int)) rfl iIn rfl rfl rfl rfl HX3.out (show 2 < 10 by decide) ?_; intro w4 hb hbut)
    | fail)
  have HX4 : Hid (Blk w4 g1 48 (pcells ⟨n, b, c, [], 0, 0, 0, 0, 0, 0⟩ noS)) := hb
  have HZ4 := Hid.mk' (HZ3.out.but hbut HNE.out.1)
  have HT4 : Hid (Grow w w4) := HT3.out.then hbut (fun j hj e => by have := HNE.out.2.2; omega)
  clear hb hbut HX3 HZ3 HT3
  have c2 : w4.cell? ⟨g1, 2, none⟩ = some (.int .i64 (c : Int)) := HX4.out.cell 2
  go_wp2_with fail
  refine Calls.mono (HBG3.out _) ?_
  rintro e w' ⟨rfl, hw⟩
  have h3 := hw.symm
  subst h3
  clear hw HBG3 c2
  obtain ⟨w5, hw5⟩ : ∃ w5, w5 = w4.alloc (.cells #[.int .i64 (m0 : Int)] 3) := ⟨_, rfl⟩
  have HG5 : Hid (Grow w4 w5) := Hid.mk' (by rw [hw5]; exact (But.refl _ w4).alloc _)
  have HO5 : Hid (Own w w5 (.slice (some ⟨w4.heap.size, 0, none⟩) 1 1) (toI [m0])) := Hid.mk' (by
    rw [hw5]
    exact ⟨(RowOf.lit (Fr := fun _ => True) (n := 1) (Blk.new (L := numv [(m0 : Int)]) rfl) rfl (by decide) trivial).own, fun k hk => by
      have h9 : some w4.heap.size = some k := hk
      have := Option.some.inj h9
      have := HT4.out.size
      omega⟩)
  have HN5 : Hid (∀ k, (Value.slice (some ⟨w4.heap.size, 0, none⟩) 1 1).ownBlock = some k → k ≠ g0 ∧ k ≠ g1) := fun k hk => by
    have h9 : some w4.heap.size = some k := hk
    have := Option.some.inj h9
    have := HX4.out.lt
    have := HZ4.out.lt
    exact ⟨by omega, by omega⟩
  have HX5 := Hid.mk' (HX4.out.but HG5.out (fun h => h))
  have HZ5 := Hid.mk' (HZ4.out.but HG5.out (fun h => h))
  have HT5 := Hid.mk' (HT4.out.trans HG5.out)
  have HW5 := Hid.mk' hw5
  clear hw5
  go_upto_region 9 with (first
    | (refine wpList_runH rfl (exec_row1 (v := .int .i64 (m0 : Int)) Try.underlying26 infNum (by decide) (by decide) rfl rfl rfl) ?_; rw [show w4.alloc (.cells (Value.int .i64 (m0 : Int)).cells 3) = w5 from HW5.out.symm])
    | (refine wpList_store1 (g := g1) (i := 3) (v := .slice (some ⟨w4.heap.size, 0, none⟩) 1 1) rfl iSl rfl rfl rfl rfl HX5.out (show 3 < 10 by decide) ?_; intro w6 hb hbut)
    | fail)
  obtain ⟨r, hr⟩ : ∃ r : Value, r = .slice (some ⟨w4.heap.size, 0, none⟩) 1 1 := ⟨_, rfl⟩
  have HI6 : Hid (OfM w w6 g0 g1 (.slice (some ⟨w4.heap.size, 0, none⟩) 1 1) [m0] ⟨n, b, c, [], 0, 0, 0, 0, 0, 0⟩) :=
    ⟨hb, HZ5.out.but hbut HNE.out.1, HO5.out.but hbut (fun j hj e => (HN5.out j hj).2 e), HT5.out.then hbut (fun j hj e => by have := HNE.out.2.2; omega), HNE.out, HN5.out⟩
  clear hb hbut hr HX4 HZ4 HT4 HX5 HZ5 HT5 HO5 HW5 HG5
  go_wp2_with (first
    | (refine wpList_store1 (g := g1) (i := 4) (v := .int .i64 (m0 : Int)) rfl iIn rfl rfl rfl rfl HI6.out.one (show 4 < 10 by decide) ?_; intro w7 hb hbut)
    | fail)
  have HI7 := Hid.mk' (HI6.out.put (p' := ⟨n, b, c, [], ([m0].sum : Nat), 0, 0, 0, 0, 0⟩) (by rw [show [m0].sum = m0 by simp]; exact hb) hbut)
  clear hb hbut HI6
  refine act_down ?_
  intro K hK
  go_simp
  refine hK _ ?_
  clear hK K
  go_loopw [7] (fun mv wr => ∃ (m k : Nat) (A : List Nat) (r : Value), mv = .int .i64 (m : Int) ∧ k ≤ 3 ∧ 1 ≤ m ∧ m ≤ 8 ^ k ∧ A.length ≤ 3 - k ∧ L = A ++ lvN k m ∧ OfM w wr g0 g1 r (A ++ [m]) ⟨n, b, c, [], ((A ++ [m]).sum : Nat), 0, 0, 0, 0, 0⟩) (fun mv _ => (intOf mv).toNat)
  case atStart => exact ⟨m0, 3, [], _, rfl, by decide, HLE.out.2.1, HLE.out.2.2, by decide, HLE.out.1, HI7.out⟩
  case round =>
    clear HI7 HLE
    obtain ⟨m, k, A, r, rfl, hk, hm1, hm8, hA, hLL2, hI⟩ := hrel
    have HI := Hid.mk' hI
    have HM := Hid.mk' (And.intro hm1 hm8)
    have HL := Hid.mk' hLL2
    have HK := Hid.mk' hk
    have HA := Hid.mk' hA
    have hmu : m ≤ 512 := Nat.le_trans hm8 (show 8 ^ k ≤ 8 ^ 3 from Nat.pow_le_pow_right (by decide) hk)
    have hmi : (m : Int) ≤ 512 := by omega
    obtain ⟨ra, rc, hre⟩ := hI.own.sl
    rw [toI_len, List.length_append, List.length_singleton] at hre
    obtain ⟨rl, hrl⟩ : ∃ rl, rl = A.length + 1 := ⟨_, rfl⟩
    rw [← hrl] at hre
    have HRL := Hid.mk' hrl
    clear hI hm8 hk hA hLL2 hrl
    subst hre
    by_cases hgt : m = 1
    · have hgb : ((m : Int) != 1) = false := by rw [hgt]; rfl
      have hLE : L = A ++ [m] := by rw [HL.out, lvN_one (by omega)]
      have hI := HI.out
      rw [← hLE, ← HND.out] at hI
      have HI := Hid.mk' hI
      have hlt : True := trivial
      have hie : True := trivial
      have hil : True := trivial
      clear hgt hLE hmu
      have d0 : wr.cell? ⟨g1, 0, none⟩ = some (.int .i64 (n : Int)) := hI.one.cell 0
      have d2 : wr.cell? ⟨g1, 2, none⟩ = some (.int .i64 (c : Int)) := hI.one.cell 2
      have d4 : wr.cell? ⟨g1, 4, none⟩ = some (.int .i64 (nd : Int)) := hI.one.cell 4
      obtain ⟨q1, q2, q3, q4⟩ := HSM.out
      obtain ⟨q5, q6, q7⟩ := HBD.out
      obtain ⟨s7, hs7⟩ : ∃ s : Int, s = ((hd + hs : Nat) : Int) := ⟨_, rfl⟩
      obtain ⟨s8, hs8⟩ : ∃ s : Int, s = ((hd + hs + b : Nat) : Int) := ⟨_, rfl⟩
      obtain ⟨s9, hs9⟩ : ∃ s : Int, s = ((hd + hs + b + b : Nat) : Int) := ⟨_, rfl⟩
      rw [← hs7] at q2 q3
      rw [← hs8] at q3 q4
      rw [← hs9] at q4
      have HPE : Hid (plan n b = ⟨n, b, c, toI L, nd, hd, hs, s7, s8, s9⟩) := by rw [hs7, hs8, hs9]; exact HPL.out
      have hQ := HQ.out
      have q8 : s7 ≤ 5000 := by omega
      have q9 : s8 ≤ 5500 := by omega
      clear hI hie hil hs7 hs8 hs9 HSM HBD HPL HQ hlt
      go_upto_region 15 with (first
        | (refine wpList_store1 (g := g1) (i := 5) (v := .int .i64 (hd : Int)) rfl iIn rfl rfl rfl rfl HI.out.one (show 5 < 10 by decide) ?_; intro w6 hb6 hbut6)
        | fail)
      have H6 := Hid.mk' (HI.out.put (p' := ⟨n, b, c, [], nd, hd, 0, 0, 0, 0⟩) hb6 hbut6)
      clear hb6 hbut6 d0 d2 d4 HI
      go_wp2_with fail
      refine Calls.mono (HBG2.out _) ?_
      rintro e w' ⟨rfl, hw⟩
      have h3 := hw.symm
      subst h3
      clear hw HBG2
      go_upto_region 16 with (first
        | (refine wpList_store1 (g := g1) (i := 6) (v := .int .i64 (hs : Int)) rfl iIn rfl rfl rfl rfl H6.out.one (show 6 < 10 by decide) ?_; intro w7 hb7 hbut7)
        | fail)
      have H7 := Hid.mk' (H6.out.put (p' := ⟨n, b, c, [], nd, hd, hs, 0, 0, 0⟩) hb7 hbut7)
      have d5 : w7.cell? ⟨g1, 5, none⟩ = some (.int .i64 (hd : Int)) := H7.out.one.cell 5
      have d6 : w7.cell? ⟨g1, 6, none⟩ = some (.int .i64 (hs : Int)) := H7.out.one.cell 6
      clear hb7 hbut7 H6
      go_upto_region 17 with (first
        | (refine wpList_store1 (g := g1) (i := 7) (v := .int .i64 s7) rfl iIn rfl rfl rfl rfl H7.out.one (show 7 < 10 by decide) ?_; intro w8 hb8 hbut8)
        | fail)
      have H8 := Hid.mk' (H7.out.put (p' := ⟨n, b, c, [], nd, hd, hs, s7, 0, 0⟩) hb8 hbut8)
      have d7 : w8.cell? ⟨g1, 7, none⟩ = some (.int .i64 s7) := H8.out.one.cell 7
      clear hb8 hbut8 H7 d5 d6
      go_upto_region 18 with (first
        | (refine wpList_store1 (g := g1) (i := 8) (v := .int .i64 s8) rfl iIn rfl rfl rfl rfl H8.out.one (show 8 < 10 by decide) ?_; intro w9 hb9 hbut9)
        | fail)
      have H9 := Hid.mk' (H8.out.put (p' := ⟨n, b, c, [], nd, hd, hs, s7, s8, 0⟩) hb9 hbut9)
      have d8 : w9.cell? ⟨g1, 8, none⟩ = some (.int .i64 s8) := H9.out.one.cell 8
      clear hb9 hbut9 H8 d7
      go_upto_region 19 with (first
        | (refine wpList_store1 (g := g1) (i := 9) (v := .int .i64 s9) rfl iIn rfl rfl rfl rfl H9.out.one (show 9 < 10 by decide) ?_; intro w10 hb10 hbut10)
        | fail)
      have H10 := Hid.mk' (H9.out.put (p' := ⟨n, b, c, [], nd, hd, hs, s7, s8, s9⟩) hb10 hbut10)
      have HCW : Hid (∀ j u, (pcells ⟨n, b, c, [], nd, hd, hs, s7, s8, s9⟩ (.slice ra rl rc))[j]? = some u → w10.cell? ((⟨g1, 0, none⟩ : Addr).add j) = some u) := fun j u hj => by
        rw [addr_add, Nat.zero_add, H10.out.one.cell j]; exact hj
      clear hb10 hbut10 H9 d8
      go_wp2_with (first
        | (refine wpList_load_cells rfl _ _ rfl ⟨g1, 0, none⟩ rfl (pcells ⟨n, b, c, [], nd, hd, hs, s7, s8, s9⟩ (.slice ra rl rc)) _ HCW.out Try.underlying48 rfl iPl ?_)
        | (refine wpList_store_at rfl _ _ _ rfl g0 0 (pcells ⟨n, b, c, [], nd, hd, hs, s7, s8, s9⟩ (.slice ra rl rc)) rfl rfl 48 [] (pcells Pn.zero noS) [] (by simpa using H10.out.zero) rfl rfl iPl (pcells_one _ rfl) ?_; intro w11 hb11 hbut11; rw [List.nil_append, List.append_nil] at hb11)
        | fail)
      obtain ⟨ho, hg⟩ := H10.out.last hbut11
      refine bodyPost_ret (results_plan_tmp rfl _ _ g0 _ _ _ _ rfl hb11 Try.underlying48 rfl iPl rfl) rfl ⟨.slice ra rl rc, ?_, ?_, hg⟩
      · rw [HPE.out]; rfl
      · rw [HPE.out]; exact ho
    · have hgb : ((m : Int) != 1) = true := by
        have : (m : Int) ≠ 1 := by omega
        simpa using this
      obtain ⟨k, rfl⟩ : ∃ j, k = j + 1 := by
        cases k with
        | zero => have := HM.out.2; simp at this; omega
        | succ j => exact ⟨j, rfl⟩
      have HB := Hid.mk' (rbegun_any wr m 8 (by omega) (by decide) (by decide))
      obtain ⟨m2, hm2⟩ : ∃ m2, m2 = bg m 8 := ⟨_, rfl⟩
      rw [← hm2] at HB
      have HM2 : Hid (1 ≤ m2 ∧ m2 ≤ 8 ^ k ∧ m2 < m) := Hid.mk' (by rw [hm2]; exact ⟨bg_pos hm1, bg8 HM.out.2, by unfold bg; omega⟩)
      have HL2 : Hid (L = (A ++ [m]) ++ lvN k m2) := Hid.mk' (by rw [HL.out, lvN_more (by omega), List.append_assoc, hm2]; rfl)
      obtain ⟨sm, hsm⟩ : ∃ sm, sm = (A ++ [m]).sum := ⟨_, rfl⟩
      have hs37 : sm + m2 ≤ 37 := by
        have h5 := HLL.out.2.2.1
        have h6 : m2 ≤ (lvN k m2).sum := by
          cases k with
          | zero => show m2 ≤ [m2].sum; simp
          | succ j =>
            unfold lvN
            split
            · simp
            · rw [List.sum_cons]; omega
        rw [HL2.out, List.sum_append, ← hsm] at h5
        omega
      have esm : (sm : Int) + (m2 : Int) = ((sm + m2 : Nat) : Int) := by omega
      have hsu1 : ((sm + m2 : Nat) : Int) ≤ 37 := by omega
      have HSS : Hid (((A ++ [m]) ++ [m2]).sum = sm + m2) := Hid.mk' (by rw [List.sum_append, ← hsm]; simp)
      rw [← hsm] at HI
      obtain ⟨su, hsu2⟩ : ∃ su : Int, su = ((sm + m2 : Nat) : Int) := ⟨_, rfl⟩
      rw [← hsu2] at esm hsu1
      have HSU := Hid.mk' hsu2
      have c3 : wr.cell? ⟨g1, 3, none⟩ = some (.slice ra rl rc) := HI.out.one.cell 3
      have HAL : Hid (Grow wr (wr.alloc (.cells #[.int .i64 (m2 : Int)] 3))) := (But.refl _ wr).alloc _
      have HBL : Hid (Blk (wr.alloc (.cells #[.int .i64 (m2 : Int)] 3)) wr.heap.size 3 (numv [(m2 : Int)])) := Blk.new (L := numv [(m2 : Int)]) rfl
      have HRW : Hid (wr.ownsRow 0 3 1 (.slice ra rl rc) rl (numv (toI (A ++ [m])))) := Hid.mk' (by
        have h := HI.out.own.row
        rw [toI_len, List.length_append, List.length_singleton, ← HRL.out] at h
        exact h)
      have hm2i : (m2 : Int) ≤ 512 := by have := HM2.out.2.2; omega
      clear hm2 hm1 hmu HM HL hsm hs37 hsu2 hgt
      go_wp2_with fail
      refine Calls.mono HB.out ?_
      rintro e w' ⟨rfl, hw⟩
      have h3 := hw.symm
      subst h3
      clear hw HB
      go_upto_region 13 with (first
        | (refine wpList_runH rfl (exec_row1 (v := .int .i64 (m2 : Int)) Try.underlying26 infNum (by decide) (by decide) rfl rfl rfl) ?_)
        | (refine wpList_someH rfl (exec_append (v := .slice ra rl rc) (n := rl) (xs := numv (toI (A ++ [m]))) (news := numv [(m2 : Int)]) Try.underlying26 infNum rfl (by decide) rfl rfl (ownsRow_grow HRW.out HAL.out) rfl rfl (fun j u hj => HBL.out.cells0 j u hj) (fun u hu => by rw [show u = .int .i64 (m2 : Int) by simpa [numv] using hu]; rfl) (by have := HRL.out; have := HA.out; omega) (by decide)) ?_; intro v4 w4 hap
           obtain ⟨va, vc, e4⟩ := own_sl hap.own
           subst e4
           have hb4 : Blk w4 g1 48 (pcells ⟨n, b, c, [], sm, 0, 0, 0, 0, 0⟩ (.slice ra rl rc)) := (HI.out.one.but HAL.out (fun h => h)).but hap.but (fun e => (HI.out.nv g1 e).2 rfl))
        | (refine wpList_store1 (g := g1) (i := 3) rfl iSl rfl rfl rfl rfl hb4 (show 3 < 10 by decide) ?_; intro w5 hb5 hbut5)
        | fail)
      have HI5 := Hid.mk' (HI.out.app HRL.out HAL.out hap hb5 hbut5)
      have c4 : w5.cell? ⟨g1, 4, none⟩ = some (.int .i64 (sm : Int)) := HI5.out.one.cell 4
      clear hap hb4 hb5 hbut5 c3 HAL HBL HRW HI
      go_wp2_with (first
        | (refine wpList_store1 (g := g1) (i := 4) (v := .int .i64 su) rfl iIn rfl rfl rfl rfl HI5.out.one (show 4 < 10 by decide) ?_; intro w6 hb6 hbut6)
        | fail)
      refine ⟨⟨.int .i64 (m2 : Int), _, _, _, _, _, _, _, _, _, _, _, _, _, _, _, ⟨m2, k, A ++ [m], _, rfl, by have := HK.out; omega, HM2.out.1, HM2.out.2.1, by rw [List.length_append, List.length_singleton]; have := HA.out; have := HK.out; omega, HL2.out, HI5.out.put (p' := ⟨n, b, c, [], (((A ++ [m]) ++ [m2]).sum : Nat), 0, 0, 0, 0, 0⟩) (by rw [HSS.out, ← HSU.out]; exact hb6) hbut6⟩, rfl⟩, ?_⟩
      show (m2 : Int).toNat < (m : Int).toNat
      have := HM2.out.2.2
      omega
end Go.Proofs.Ytmlladpmecclbaa
/- journal's reference: Head. -/
namespace Go.Proofs.Ytmlladpmecclbaa
open Go.RowKit

theorem rputJ {v : Value} {xs : List Nat} {w : World} (hv : Bs w v xs) (hl : xs.length ≤ 100000) (n s : Nat) (h1 : 1 ≤ s) (h8 : s ≤ 8) (hn : n / 256 ^ s = 0) (hn64 : n < 18446744073709551616) :
    Calls Try.prog 33 #[v, .int .u64 n, .int .i64 s] w fun e w' => ∃ v', e = .returned (.tuple #[v', .int .i64 0]) ∧ Ow w' w.heap.size v' (xs ++ be n s) ∧ Grow w w' := by
  refine (refPut_own hv (by omega) n s h1 h8 hn64).mono ?_
  rintro e w' ⟨v', f, rfl, hb, ⟨h, _⟩ | ⟨_, rfl, h⟩⟩
  · exact absurd hn h
  · exact ⟨v', rfl, h, But.of hb⟩
theorem padB_step {V m j : Nat} {l : List Nat} (h : (hdB V l).length + j = 256 * m) : hdB V l ++ List.replicate j 0 = padB (hdB V l) m := by
  unfold padB
  rw [show 256 * m - (hdB V l).length = j by omega]
set_option maxRecDepth 100000 in
set_option maxHeartbeats 16000000 in
theorem rhead_any {w : World} {V b : Nat} {bv : Value} {l : List Nat} (hV : V < 18446744073709551616) (hv : Nums w bv (toI l)) (h1 : 1 ≤ b) (h2 : b ≤ 256) (hl : l.length ≤ b) (hx : ∀ x ∈ l, x < 4294967296) :
    Calls Try.prog 21 #[.int .u64 (V : Int), bv, .int .i64 (b : Int)] w fun e w' => ∃ v' f, e = .returned (.tuple #[v', .int .i64 f]) ∧ Grow w w' ∧ ((¬ (∀ x ∈ l, x ≤ 65535) ∧ f = 1 ∧ v' = .slice none 0 0) ∨ ((∀ x ∈ l, x ≤ 65535) ∧ f = 0 ∧ Ps w' v' (cutN (hdB V l) (hds b)))) := by
  have HV := Hid.mk' hv
  obtain ⟨ao, cap, rfl⟩ := hv.len
  rw [toI_len]
  rw [toI_len] at HV
  obtain ⟨n, hn⟩ : ∃ n, n = l.length := ⟨_, rfl⟩
  rw [← hn] at hl ⊢
  rw [← hn] at HV
  have HN := Hid.mk' hn
  have hm5 := hds_le h2
  have hroom := hds_room b
  have hof := rof_any w 1 b (by decide) (by decide) h1 h2
  unfold OfTo at hof
  rw [show ((1 : Nat) : Int) = 1 from rfl] at hof
  obtain ⟨P, hP⟩ : ∃ P, P = plan 1 b := ⟨_, rfl⟩
  have hh : P.heads = (hds b : Nat) := by rw [hP]; rfl
  rw [← hP] at hof
  have HOF := Hid.mk' hof
  obtain ⟨m, hm⟩ : ∃ m, m = hds b := ⟨_, rfl⟩
  rw [← hm] at hh hm5 hroom ⊢
  have HH := Hid.mk' hh
  have HP0 : Hid (∀ w', Calls Try.prog 33 #[.slice none 0 0, .int .u64 (V : Int), .int .i64 8] w' fun e w'' => ∃ v', e = .returned (.tuple #[v', .int .i64 0]) ∧ Ow w'' w'.heap.size v' (be V 8) ∧ Grow w' w'') := fun w' => by
    have := rputJ (Bs.nil w') (by simp) V 8 (by decide) (by decide) (Nat.div_eq_of_lt (by simpa using hV)) hV
    simpa using this
  have HP4 : Hid (∀ w' (N : Nat), N ≤ 65535 → Calls Try.prog 33 #[.slice none 0 0, .int .u64 (N : Int), .int .i64 4] w' fun e w'' => ∃ v', e = .returned (.tuple #[v', .int .i64 0]) ∧ Ow w'' w'.heap.size v' (be N 4) ∧ Grow w' w'') := fun w' N hN => by
    have := rputJ (Bs.nil w') (by simp) N 4 (by decide) (by decide) (Nat.div_eq_of_lt (by show N < 256 ^ 4; omega)) (by omega)
    simpa using this
  have HX : Hid (∀ i, i < n → l.getD i 0 < 4294967296) := fun i hi => hx _ (by simp [List.getD, show i < l.length by omega])
  have hnb : (n : Int) ≤ (b : Int) := by omega
  have hwn : IntKind.u64.wrap (n : Int) = (n : Int) := wrapU n (by omega)
  obtain ⟨M, hM⟩ : ∃ M, M = 256 * m := ⟨_, rfl⟩
  have hwM : IntKind.i64.wrap (256 * (m : Int)) = (M : Int) := by rw [wrapI (by omega) (by omega)]; omega
  have HMM := Hid.mk' hM
  have hMb : M ≤ 1280 := by omega
  have hnM : 12 + 4 * n ≤ M := by omega
  clear hv hn hm hx hV hof hP hh hM hroom
  go_enter Try.func21, Try.ntmps21
  go_wp2_with fail
  refine Calls.mono HOF.out ?_
  rintro e w1 ⟨v, rfl, ho, hg⟩
  obtain ⟨pa, pc, hve⟩ := ho.sl
  generalize P.levels.length = ln at hve
  subst hve
  have HG := Hid.mk' hg
  clear hg ho HOF
  go_upto_region 2 with (first
    | (refine wpList_runH rfl (exec_allocF rfl (zPl _)) ?_)
    | (refine wpList_store_at rfl _ _ _ rfl w1.heap.size 0 (pcells P (.slice pa ln pc)) rfl (by exact rfl) 48 [] (pcells Pn.zero noS) [] (var_new w1) rfl rfl iPl (pcells_one _ rfl) ?_; intro w2 hb2 hbut2; rw [List.nil_append, List.append_nil] at hb2)
    | fail)
  obtain ⟨g8, hgg⟩ : ∃ g, g = w1.heap.size := ⟨_, rfl⟩
  have hg2 := var_grow hbut2
  rw [← hgg] at hb2 ⊢
  have HG2 := Hid.mk' (HG.out.trans hg2)
  have HB2 := Hid.mk' hb2
  have HC6 : Hid (∀ w', Grow w2 w' → w'.cell? ⟨g8, 6, none⟩ = some (.int .i64 (m : Nat))) := fun w' k => by rw [← HH.out]; exact (HB2.out.but k (fun h => h)).cell 6
  clear hgg hb2 hbut2 hg2
  go_wp2_with fail
  refine Calls.mono (HP0.out w2) ?_
  rintro e w3 ⟨v3, rfl, ho3, hg3⟩
  have HO3 := Hid.mk' ho3
  have HG3 := Hid.mk' hg3
  obtain ⟨a3, n3, c3, rfl⟩ := ho3.slice
  clear ho3 hg3 HP0
  go_wp2_with fail
  refine Calls.mono (HP4.out w3 n (by omega)) ?_
  rintro e w4 ⟨v4, rfl, ho4, hg4⟩
  have HO4 := Hid.mk' ho4.bs
  have HG4 := Hid.mk' (HG3.out.trans hg4)
  have HO34 := Hid.mk' (HO3.out.but hg4 (fun _ _ _ h => h))
  obtain ⟨a4, n4, c4, rfl⟩ := ho4.slice
  clear ho4 hg4 HO3
  go_upto_region 7 with (first
    | (refine wpList_append_bsC rfl _ _ rfl w2.heap.size (.slice a3 n3 c3) (.slice a4 n4 c4) (be V 8) (be n 4) rfl HO34.out rfl HO4.out (by rw [be_len, be_len]; decide) HG4.out.size ?_; intro a5 m5 c5 w5 ho5 hm5' hg5; have HM5 := Hid.mk' hm5'; clear hm5')
    | fail)
  have hgr5 : Grow w2 w5 := HG4.out.grown hg5 (fun j hj hlt => by have := (HO34.out.ge j hj).1; omega)
  have HG5 := Hid.mk' hgr5
  have HO5 : Hid (Ow w5 w2.heap.size (.slice a5 m5 c5) (hdP V l 0)) := by
    show Ow _ _ _ _
    rw [hdP_zero, ← HN.out]; exact ho5
  clear ho5 hg5 hgr5 HO4 HO34 HM5
  go_upto_region 8 with fail
  go_loopw [10, 14] (fun xv iv wr => ∃ (k : Nat) (v : Value), v = xv ∧ k ≤ n ∧ iv = .int .i64 k ∧ Ow wr w2.heap.size v (hdP V l k) ∧ Grow w2 wr ∧ ∀ i, i < k → l.getD i 0 ≤ 65535) (fun _ iv _ => n - (intOf iv).toNat)
  case atStart => exact ⟨0, _, rfl, Nat.zero_le _, rfl, HO5.out, HG5.out, fun i hi => absurd hi (Nat.not_lt_zero _)⟩
  case round =>
    obtain ⟨k, v, hvv, hk, rfl, ho, hgr, hall⟩ := hrel
    subst hvv
    have HO := Hid.mk' ho
    have HGR := Hid.mk' hgr
    have HALL := Hid.mk' hall
    obtain ⟨va, vn, vc, rfl⟩ := ho.slice
    clear HO5
    by_cases hlt : k < n
    · obtain ⟨bb, off, c, hve, -, -, hc⟩ := (HV.out.grow (HG2.out.trans hgr)).at (by rw [toI_len, ← HN.out]; omega)
      simp only [Value.slice.injEq] at hve
      obtain ⟨rfl, -, rfl⟩ := hve
      obtain ⟨x, hx⟩ : ∃ x, x = l.getD k 0 := ⟨_, rfl⟩
      have hcc := hc k (by rw [toI_len, ← HN.out]; exact hlt)
      have hxi : (toI l).getD k 0 = (x : Int) := by
        rw [hx]
        simp [toI, List.getD, show k < l.length by rw [← HN.out]; exact hlt]
      rw [hxi] at hcc
      have hx2 : x < 4294967296 := by rw [hx]; exact HX.out k hlt
      have HXX := Hid.mk' hx
      have hki : (k : Int) < (n : Int) := by omega
      clear hc hx hxi ho hgr hall
      by_cases hbig : x ≤ 65535
      · have hbi : ¬ 65535 < (x : Int) := by omega
        have hwx : IntKind.u64.wrap (x : Int) = (x : Int) := wrapU x (by omega)
        have HPK := Hid.mk' (HP4.out wr x hbig)
        go_wp2_with fail
        refine Calls.mono HPK.out ?_
        rintro e w5 ⟨v5, rfl, ho5, hg5⟩
        have HB5 := Hid.mk' ho5.bs
        have HG5 := Hid.mk' (HGR.out.trans hg5)
        have HOW5 := Hid.mk' (HO.out.but hg5 (fun _ _ _ h => h))
        obtain ⟨a5, n5, c5, rfl⟩ := ho5.slice
        clear ho5 hg5 HPK
        go_wp2_with (first
          | (refine wpList_append_bsC rfl _ _ rfl w2.heap.size (.slice va vn vc) (.slice a5 n5 c5) (hdP V l k) (be x 4) rfl HOW5.out rfl HB5.out (by rw [be_len, hdP_len (by rw [← HN.out]; omega)]; omega) HG5.out.size ?_; intro a6 m6 c6 w6 ho6 hm6 hg6; have HM6 := Hid.mk' hm6; clear hm6)
          | fail)
        refine ⟨⟨k + 1, _, rfl, by omega, by go_num, ?_, HG5.out.grown hg6 (fun j hj hlt => by have := (HOW5.out.ge j hj).1; omega), fun i hi => ?_⟩, by simp [intOf]; omega⟩
        · rw [hdP_next (by rw [← HN.out]; exact hlt), ← HXX.out]; exact ho6
        · by_cases hik : i = k
          · rw [hik, ← HXX.out]; exact hbig
          · exact HALL.out i (by omega)
      · have hbi : 65535 < (x : Int) := by omega
        have hno : ¬ ∀ y ∈ l, y ≤ 65535 := fun h => hbig (h x (by rw [HXX.out]; simp [List.getD, show k < l.length by rw [← HN.out]; exact hlt]))
        have HNO := Hid.mk' hno
        clear hno
        go_wp2
        exact bodyPost_ret (results_tmp2 rfl _ _ _) rfl ⟨_, 1, rfl, HG2.out.trans HGR.out, .inl ⟨HNO.out, rfl, rfl⟩⟩
    · have hkn : k = n := by omega
      have hall' : ∀ y ∈ l, y ≤ 65535 := fun y hy => by
        obtain ⟨i, hi, rfl⟩ := List.mem_iff_getElem.1 hy
        have := hall i (by rw [hkn, HN.out]; exact hi)
        simpa [List.getD, hi] using this
      have HALL2 := Hid.mk' hall'
      have hfull : hdP V l k = hdB V l := by rw [hkn, HN.out]; exact hdP_full V l
      rw [hfull] at ho
      have HOB := Hid.mk' ho
      obtain ⟨wo, hwo⟩ : ∃ wo, wo = wr := ⟨_, rfl⟩
      subst hwo
      have HGO := HGR
      have HKN := Hid.mk' hkn
      clear ho hgr hall hall' hfull HO HGR HALL HG5 hkn
      go_upto_region 14 with fail
      clear hlt hk
      go_loopw [10] (fun ov wx => ∃ j : Nat, 12 + 4 * n + j ≤ M ∧ Ow wx w2.heap.size ov (hdB V l ++ List.replicate j 0) ∧ Grow w2 wx) (fun s _ => match s with | .slice _ m _ => M - m | _ => 0)
      case atStart => exact ⟨0, by omega, by simpa using HOB.out, HGO.out⟩
      case round =>
        obtain ⟨j, hj, ho, hgr⟩ := hrel
        have hlen : (hdB V l ++ List.replicate j 0).length = 12 + 4 * n + j := by rw [List.length_append, List.length_replicate, hdB_len, ← HN.out]
        obtain ⟨al, cl, rfl, -, -⟩ := ho.bs.gen
        rw [hlen] at ho ⊢
        obtain ⟨q, hq⟩ : ∃ q, q = 12 + 4 * n + j := ⟨_, rfl⟩
        rw [← hq] at ho ⊢
        have HQ := Hid.mk' hq
        have HO := Hid.mk' ho
        have HGR := Hid.mk' hgr
        have c6 := HC6.out wr hgr
        have hqM : q ≤ M := by omega
        clear HOB
        by_cases hlt : q < M
        · have hqi : (q : Int) < (M : Int) := by omega
          have HZ : Hid (Bs (wr.alloc (.cells #[.int .u8 0] 5)) (.slice (some ⟨wr.heap.size, 0, none⟩) 1 1) [0]) := by
            have := lit_ow wr [0] (by simp) (by simp)
            exact this.bs
          have HAL : Hid (Grow wr (wr.alloc (.cells #[.int .u8 0] 5))) := (But.refl _ wr).alloc _
          have HO2 := Hid.mk' (HO.out.but HAL.out (fun _ _ _ h => h))
          have HG2' := Hid.mk' (HGR.out.trans HAL.out)
          have HLL : Hid ((hdB V l ++ List.replicate j 0).length + [0].length ≤ 140737488355328) := by show _ ≤ _; rw [hlen]; simp; omega
          clear hlen hq hj ho hgr
          go_wp2_with (first
            | (refine wpList_append_bsC rfl _ _ rfl w2.heap.size (.slice al q cl) (.slice (some ⟨wr.heap.size, 0, none⟩) 1 1) _ [0] rfl HO2.out rfl HZ.out HLL.out HG2'.out.size ?_; intro a6 m6 c6' w6 ho6 hm6 hg6; have HM6 := Hid.mk' hm6; clear hm6)
            | fail)
          rw [List.append_assoc, ← List.replicate_succ'] at ho6
          have hm6 : m6 = q + 1 := by rw [HM6.out, List.length_append, List.length_replicate, hdB_len, ← HN.out, HQ.out]; rfl
          refine ⟨⟨j + 1, by have := HQ.out; omega, ho6, HG2'.out.grown hg6 (fun x hx hlt => by have := (HO2.out.ge x hx).1; omega)⟩, ?_⟩
          show M - m6 < M - q
          omega
        · have hqe : q = M := by omega
          have hpad : hdB V l ++ List.replicate j 0 = padB (hdB V l) m := padB_step (by rw [hdB_len, ← HN.out, ← HMM.out]; omega)
          rw [hpad] at ho
          subst hqe
          have HOP := Hid.mk' ho
          obtain ⟨wq, hwq⟩ : ∃ wq, wq = wr := ⟨_, rfl⟩
          subst hwq
          have HGQ := HGR
          have HCP : Hid (q ≤ cl) := by
            have hps := ho.bs
            obtain ⟨-, -, ⟨h0, -⟩ | ⟨-, b', o', c', e, hc, -, -⟩⟩ := hps
            · have := congrArg List.length h0
              rw [padB_len (by rw [hdB_len, ← HN.out, ← HMM.out]; omega), ← HMM.out] at this
              simp at this
              omega
            · simp only [Value.slice.injEq] at e
              obtain ⟨-, -, rfl⟩ := e
              rw [padB_len (by rw [hdB_len, ← HN.out, ← HMM.out]; omega), ← HMM.out] at hc
              exact hc
          have H0 : Hid (Nb wq.heap.size wq (.slice none 0 0) 0 (fun _ => 0) (cutB (hdB V l))) := Nb.nil _ _ _ _
          clear hlen hq hj ho hgr HO HGR hpad hlt
          go_upto_region 18 with fail
          clear c6
          go_loopw [17, 18] (fun xv iv wr => ∃ (i : Nat) (r : Value), r = xv ∧ i ≤ m ∧ iv = .int .i64 i ∧ ∃ G, Nb wq.heap.size wr r i G (cutB (hdB V l)) ∧ Grow wq wr) (fun _ iv _ => m - (intOf iv).toNat)
          case atStart => exact ⟨0, _, rfl, Nat.zero_le _, rfl, _, H0.out, But.refl _ _⟩
          case round =>
            obtain ⟨i, r, hr, hi, rfl, G, hnb, hgr⟩ := hrel
            subst hr
            have HNB := Hid.mk' hnb
            have HGR := Hid.mk' hgr
            obtain ⟨ra, rc, hre⟩ := hnb.len
            subst hre
            have c6 := HC6.out wr (HGQ.out.trans hgr)
            clear H0
            by_cases hlt : i < m
            · have hii : (i : Int) < (m : Int) := by omega
              obtain ⟨S, hS⟩ : ∃ S, S = 256 * i := ⟨_, rfl⟩
              obtain ⟨E, hE⟩ : ∃ E, E = S + 256 := ⟨_, rfl⟩
              have hEq : E ≤ q := by have := HMM.out; omega
              have hw1 : IntKind.i64.wrap (256 * (i : Int)) = (S : Int) := by rw [wrapI (by omega) (by omega)]; omega
              have hw2 : IntKind.i64.wrap ((S : Int) + 256) = (E : Int) := by rw [wrapI (by omega) (by omega)]; omega
              obtain ⟨pb, cp0, Rr, hve, -, -, -, -, -⟩ := HOP.out.opn (by rw [padB_len (by rw [hdB_len, ← HN.out, ← HMM.out]; omega), ← HMM.out]; omega)
              simp only [Value.slice.injEq] at hve
              obtain ⟨rfl, -, -⟩ := hve
              have HSL := Hid.mk' (fun w' => slice_mid (b := pb) (so := 0) (m := q) (cap := cl) (n := S) (e := E) (by omega) (by have := HCP.out; omega) (by have := HCP.out; omega) w')
              have hbm := Bs.mid (n := S) (e := E) (HOP.out.but hgr (fun _ _ _ h => h)).bs (by omega) (by rw [padB_len (by rw [hdB_len, ← HN.out, ← HMM.out]; omega), ← HMM.out]; omega)
              have hes : E - S = 256 := by omega
              rw [hes, Nat.zero_add] at HSL hbm
              rw [hS, padB_cut (by rw [hdB_len, ← HN.out, ← HMM.out]; omega) hlt, ← hS] at hbm
              have HCPY := Hid.mk' (copy_any hbm (by rw [cutB_len]; decide))
              clear hbm hnb hgr hS hE hes hEq
              go_wp2_with (first
                | (refine wpList_runH rfl (exec_slc rfl rfl rfl rfl (HSL.out wr)) ?_)
                | fail)
              refine Calls.mono HCPY.out ?_
              rintro e w5 ⟨v5, rfl, ho5, hb5⟩
              have hg5 : Grow wr w5 := But.of hb5
              obtain ⟨g1, cp, Rq, rfl, hge, hbk, hRl, hc1, hc2⟩ := ho5.opn (by rw [cutB_len]; decide)
              rw [cutB_len] at hRl hc1 ⊢
              have HEL : Hid (El (w5.alloc (.cells #[.slice (some ⟨g1, 0, none⟩) 256 cp] 37)) (.slice (some ⟨g1, 0, none⟩) 256 cp) g1 (cutB (hdB V l) i)) := ⟨cp, Rq, rfl, hc1, cutB_len _ _, cutB_lt (hdB_lt V l) _, hbk.but (R := fun _ => False) ((But.refl _ w5).alloc _) (fun h => h)⟩
              have HG5 := Hid.mk' hg5
              have HNBi := Hid.mk' ((HNB.out.grow hg5).grow ((But.refl (fun _ => False) w5).alloc (.cells #[.slice (some ⟨g1, 0, none⟩) 256 cp] 37)))
              have HBLK : Hid (Blk (w5.alloc (.cells #[.slice (some ⟨g1, 0, none⟩) 256 cp] 37)) w5.heap.size 37 [.slice (some ⟨g1, 0, none⟩) 256 cp]) := Blk.new rfl
              have HGE := Hid.mk' hge
              have HLO : Hid (∀ j, j < i → G j ≠ g1) := fun j hj e => by
                obtain ⟨V', -, hV'⟩ := HNB.out.ex
                have := (hV' j hj).lt
                omega
              have HRO : Hid ((Value.slice ra i rc).ownBlock ≠ some g1) := fun e => by
                have := (HNB.out.row.lt _ e).2
                omega
              have HSZ : Hid (wq.heap.size ≤ wr.heap.size) := HGR.out.size
              clear ho5 hb5 hg5 hbk hRl hc1 hc2 hge HCPY HSL c6
              go_wp2_with (first
                | (refine wpList_someH rfl (exec_append (v := .slice ra i rc) (n := i) (xs := (List.range i).map HNBi.out.ex.choose) (news := [.slice (some ⟨g1, 0, none⟩) 256 cp]) Try.underlying22 infRS rfl (by decide) rfl rfl HNBi.out.row rfl rfl (fun j u hj => HBLK.out.cells0 j u hj) (fun u hu => by rw [show u = .slice (some ⟨g1, 0, none⟩) 256 cp by simpa using hu]; rfl) (by omega) (by decide)) ?_; intro v6 w6 hap)
                | fail)
              have hs1 := HG5.out.size
              have hs2 := HSZ.out
              have hpu := Nb.push HNBi.out HEL.out (by have := HGE.out; omega) (by simp; omega) HLO.out HRO.out hap
              refine ⟨⟨i + 1, v6, rfl, by omega, by go_num, _, hpu.same (fun j _ => ?_), (HGR.out.trans (HG5.out.alloc _)).then hap.but (fun j hj e => ?_)⟩, by simp [intOf]; omega⟩
              · unfold upd
                by_cases hji : j = i
                · rw [if_pos hji, hji]
                · rw [if_neg hji]
              · have := (HNBi.out.rnew j e).1
                omega
            · have him : i = m := by omega
              have hps := hnb.ps
              rw [him, show (List.range m).map (cutB (hdB V l)) = cutN (hdB V l) m from rfl] at hps
              have HPS : Hid (Ps wr (.slice ra i rc) (cutN (hdB V l) m)) := by show Ps _ _ _; rw [him]; exact hps
              clear hnb hgr him hps
              go_wp2
              exact bodyPost_ret (results_tmp2 rfl _ _ _) rfl ⟨_, 0, rfl, (HG2.out.trans HGQ.out).trans HGR.out, .inr ⟨HALL2.out, rfl, HPS.out⟩⟩
end Go.Proofs.Ytmlladpmecclbaa
/- The reference's Join. -/
namespace Go.Proofs.Ytmlladpmecclbaa
open Go.RowKit

/-- append, by what it was seen to give. -/
theorem wpList_append_seen {w w' : World} {ops : Array Oper} {rest : List Oper} {o : Oper} {a : Act} {Q : Exit → Act → World → Prop} (hgd : o.guard = none) (s x : Operand) (t : TypeId)
    (ho : o.op = .call { callee := .builtin .append, args := #[s, x], argTypes := #[t, t] }) (vs vx : Value) (hs : a.eval s = vs) (hx : a.eval x = vx) {v' : Value}
    (hr : (Builtin.append_ #[t, t] o.type #[vs, vx]).run Try.prog w = .ok v' w')
    (h : wpList Try.prog ops Q rest (a.put o.dst v') w') : wpList Try.prog ops Q (o :: rest) a w :=
  wpList_plain hgd fun _ hK => by
    unfold Oper.wp execOp
    simp only [ho, resolve, invoke, builtin, Sem.run_bind, Sem.run_pure, Result.andThen_ok, List.map_toArray, List.map_cons, List.map_nil, hs, hx, hr]
    exact hK _ _ h

/-- Bytes behind bytes that are the call's own. -/
theorem append_bytes {w : World} {base : Nat} {v u : Value} {zs ys : List Nat} (ty : TypeId) (hv : Ow w base v zs) (hu : Bs w u ys) (hl : zs.length + ys.length ≤ 140737488355328) (hb : base ≤ w.heap.size) :
    ∃ v' w', (Builtin.append_ #[37, 37] ty #[v, u]).run Try.prog w = .ok v' w' ∧ Ow w' base v' (zs ++ ys) ∧ w.grownBy w' v.ownBlock := by
  obtain ⟨i0, hi, hz0, hz1, hz2⟩ := info_parts u8info
  have hlt : ∀ z ∈ zs ++ ys, z < 256 := by
    intro z hz
    rcases List.mem_append.1 hz with h | h
    · exact hv.lt z h
    · exact hu.1 z h
  obtain ⟨ao, cap, rfl, hnone, hcells⟩ := hu.gen
  cases ao with
  | none =>
    have hy : ys = [] := List.eq_nil_of_length_eq_zero (hnone rfl).1
    subst hy
    obtain rfl : cap = 0 := (hnone rfl).2
    have hr := run_append_owned_none (P := Try.prog) w base 37 ty 5 i0 1 Try.underlying37 hi _ zs.length (u8s zs) hv.own
    exact ⟨v, w, hr, by simpa using hv, World.grownBy.refl _ _⟩
  | some ad =>
    obtain ⟨v', w', hr, ho, hg, _⟩ := run_append_own (P := Try.prog) w base 37 ty 5 i0 _ 1 1 Try.underlying37 hi hz0 hz1 hz2 rfl (by decide) v zs.length (u8s zs) hv.own ad ys.length cap (u8s ys) (by simp [u8s]) (hcells ad rfl) (u8s_one _) (by unfold maxLen; omega) (by omega) hb
    refine ⟨v', w', hr, ⟨hlt, by simp; omega, ?_⟩, hg⟩
    rw [List.length_append, u8s_append]; exact ho

set_option maxRecDepth 100000 in
set_option maxHeartbeats 1000000 in
theorem rjoin_any {w : World} {p : Value} {xss : List (List Nat)} (hp : Ps w p xss) (hl : xss.flatten.length ≤ 1048576) (hx : xss.length ≤ 140737488351232) :
    Calls Try.prog 19 #[p] w fun e w' => ∃ v', e = .returned v' ∧ Ow w' w.heap.size v' xss.flatten ∧ Below w.heap.size w w' := by
  obtain ⟨ao, cap, rfl, hps⟩ := hp.gen
  have HPS := Hid.mk' hps
  obtain ⟨n, hn⟩ : ∃ n, n = xss.length := ⟨_, rfl⟩
  obtain ⟨F, hF⟩ : ∃ F : Nat → List Nat, F = fun k => (xss.take k).flatten := ⟨_, rfl⟩
  obtain ⟨G, hG⟩ : ∃ G : Nat → List Nat, G = fun k => xss.getD k [] := ⟨_, rfl⟩
  have HF : Hid (∀ k, k < n → F (k + 1) = F k ++ G k) := by rw [hF, hG]; intro k hk; exact flat_next xss k (by omega)
  have HF0 : Hid (F 0 = []) := by rw [hF]; rfl
  have HFE : Hid (F n = xss.flatten) := by show _ = _; rw [hF, hn]; simp
  have HFB : Hid (∀ k, (F k).length ≤ 1048576) := by rw [hF]; intro k; exact Nat.le_trans (flat_le xss k) hl
  have HPG : Hid (0 < n → ∃ b off, ao = some ⟨b, off, none⟩ ∧ b < w.heap.size ∧ ∀ i, i < n → ∃ u, w.cell? ⟨b, off + i, none⟩ = some u ∧ Bs w u (G i)) := by rw [hn, hG]; exact HPS.out
  rw [← hn, ← HFE.out]
  rw [← hn] at hx
  clear hp hps HPS hF hG HFE hn hl
  go_enter Try.func19, Try.ntmps19
  go_wp2
  go_loopw [3, 4] (fun s i wr => ∃ k : Nat, k ≤ n ∧ i = .int .i64 k ∧ Ow wr w.heap.size s (F k) ∧ Below w.heap.size w wr) (fun _ i _ => n - (intOf i).toNat)
  case atStart => exact ⟨0, Nat.zero_le _, rfl, by rw [HF0.out]; exact Ow.nil _ _, Below.refl _ _⟩
  case round =>
    obtain ⟨k, hkn, rfl, ho, hbel⟩ := hrel
    have hsz := hbel.size
    by_cases hlt : k < n
    · have hlti : (k : Int) < (n : Int) := by omega
      obtain ⟨b, off, rfl, hb, hc⟩ := HPG.out (by omega)
      obtain ⟨u, hu, hbs⟩ := hc k hlt
      have hu' : wr.cell? ⟨b, off + k, none⟩ = some u := (hbel.cell (by exact hb)).trans hu
      have hbs' : Bs wr u (G k) := hbs.below hbel
      have hlen := HFB.out (k + 1)
      rw [HF.out k hlt, List.length_append] at hlen
      obtain ⟨v', w', hr, hown, hgr⟩ := append_bytes 37 ho hbs' (by omega) hsz
      rw [← HF.out k hlt] at hown
      have HR := Hid.mk' hr
      have HOW := Hid.mk' hown
      have HB : Hid (Below w.heap.size w w') := hbel.grown hgr (by omega) (fun j hj => (ho.ge j hj).1)
      obtain ⟨au, cu, rfl, -, -⟩ := hbs.gen
      clear hu hbs hbs' hlen hc hr hown hgr hbel ho
      go_wp2_with (at_builtin; refine wpList_append_seen rfl _ _ 37 rfl _ _ rfl rfl HR.out ?_)
      refine ⟨⟨k + 1, by omega, by go_num, HOW.out, HB.out⟩, by simp [intOf]; omega⟩
    · have hge : ¬ ((k : Int) < (n : Int)) := by omega
      obtain rfl : k = n := by omega
      go_wp2
      go_ret
      exact ⟨_, rfl, ho, hbel⟩
end Go.Proofs.Ytmlladpmecclbaa
/- The reference's reader: Num, Take, Left, End. -/
namespace Go.Proofs.Ytmlladpmecclbaa
open Go.RowKit

theorem refNum_nil (ao : Option Addr) (cap : Nat) (w : World) : Calls Try.prog 20 #[.slice ao 0 cap] w fun e w' => e = .returned (.int .u64 0) ∧ w' = w := by
  go_enter Try.func20, Try.ntmps20
  go_wp2
  refine wp_loop_rounds 1 ?_
  rw [rounds_succ]
  go_wp2
  go_ret
  exact ⟨rfl, rfl⟩
theorem refNum_any {v : Value} {zs : List Nat} {w : World} (hv : Bs w v zs) (h8 : zs.length ≤ 8) : Calls Try.prog 20 #[v] w fun e w' => e = .returned (.int .u64 (val zs : Nat)) ∧ w' = w := by
  obtain ⟨hb, _, hcase⟩ := hv
  rcases hcase with ⟨rfl, hc⟩ | ⟨h0, b, off, cap, rfl, hcap, hblk, hcell⟩
  · obtain ⟨a0, c0, rfl⟩ : ∃ ao cap, v = .slice ao 0 cap := by rcases hc with rfl | ⟨a, cap, rfl⟩ <;> exact ⟨_, _, rfl⟩
    exact refNum_nil a0 c0 w
  · obtain ⟨n, hn⟩ : ∃ n, zs.length = n := ⟨_, rfl⟩
    rw [hn] at h8 h0 hcap hcell ⊢
    have HN : Hid (zs.length = n) := hn
    have HC : Hid (∀ i, i < n → w.cell? ⟨b, off + i, none⟩ = some (.int .u8 (zs.getD i 0 : Nat))) := hcell
    have HB : Hid (∀ z ∈ zs, z < 256) := hb
    clear hn hcell hb
    go_enter Try.func20, Try.ntmps20
    go_wp2
    go_loop [3, 4] (fun a i => ∃ k : Nat, k ≤ n ∧ i = .int .i64 k ∧ a = .int .u64 (val (zs.take k) : Nat)) (fun _ i => n - (intOf i).toNat)
    case atStart => exact ⟨0, Nat.zero_le _, rfl, rfl⟩
    case round =>
      obtain ⟨k, hk, rfl, rfl⟩ := hrel
      by_cases hlt : k < n
      · obtain ⟨z, hz⟩ : ∃ z, zs.getD k 0 = z := ⟨_, rfl⟩
        have hkl : k < zs.length := by rw [HN.out]; exact hlt
        have f1 : w.cell? ⟨b, off + k, none⟩ = some (.int .u8 (z : Nat)) := by rw [← hz]; exact HC.out k hlt
        have hz1 : z < 256 := by rw [← hz]; exact HB.out _ (getD_mem zs k hkl)
        have HV : Hid (val (zs.take (k + 1)) = 256 * val (zs.take k) + z) := by rw [← hz]; exact val_next zs k hkl
        have ha : val (zs.take k) < 72057594037927936 := by
          have h1 := val_lt zs HB.out k (by omega)
          have h2 : 256 ^ k ≤ 256 ^ 7 := Nat.pow_le_pow_right (by decide) (by omega)
          omega
        clear hz
        generalize val (zs.take k) = a at *
        go_wp2
        go_round
        case rel => exact ⟨k + 1, by omega, by go_num, by rw [HV.out]; simp⟩
        case measure => simp [intOf]; omega
      · have hkn : k = n := by omega
        subst hkn
        have e : zs.take k = zs := List.take_of_length_le (by rw [HN.out]; omega)
        rw [e]
        go_wp2
        go_ret
        exact ⟨rfl, rfl⟩

end Go.Proofs.Ytmlladpmecclbaa
/- journal's reference: Open. -/
namespace Go.Proofs.Ytmlladpmecclbaa
open Go.RowKit

theorem slice_hiJ {b so m cap n : Nat} (hn : n ≤ cap) (w0 : World) :
    (Instr.sliceAt 37 (.slice (some ⟨b, so, none⟩) m cap) none (some (.int .i64 (n : Int))) none).run Try.prog w0 = .ok (.slice (some ⟨b, so, none⟩) n cap) w0 := by
  have hn' : (n : Int) ≤ (cap : Int) := by omega
  go_simp
set_option maxRecDepth 100000 in
set_option maxHeartbeats 4000000 in
theorem ropen_no {w : World} {v : Value} {y : Int} (h : ¬ (1 ≤ y ∧ y ≤ 256)) : Calls Try.prog 8 #[v, .int .i64 y] w fun e w' => e = .returned (.tuple #[.int .u64 0, .slice none 0 0, .int .i64 1]) ∧ Grow w w' := by
  have HOF := Hid.mk' (rof_not w 1 y (fun q => h q.2.2))
  clear h
  go_enter Try.func8, Try.ntmps8
  go_wp2_with fail
  refine Calls.mono HOF.out ?_
  rintro e w1 ⟨rfl, hg⟩
  have HG := Hid.mk' hg
  clear hg HOF
  go_upto_region 2 with (first
    | (refine wpList_runH rfl (exec_allocF rfl (zPl _)) ?_)
    | (refine wpList_store_at rfl _ _ _ rfl w1.heap.size 0 (pcells Pn.zero noS) rfl (by exact rfl) 48 [] (pcells Pn.zero noS) [] (var_new w1) rfl rfl iPl (pcells_one _ rfl) ?_; intro w2 hb2 hbut2; rw [List.nil_append, List.append_nil] at hb2)
    | fail)
  have HG2 := Hid.mk' (HG.out.trans (var_grow hbut2))
  clear hb2 hbut2
  go_wp2
  exact bodyPost_ret (results_tmp3 rfl _ _ _) rfl ⟨rfl, HG2.out⟩
set_option maxRecDepth 100000 in
set_option maxHeartbeats 16000000 in
theorem ropen_any {w : World} {v : Value} {hs : List (List Nat)} {b : Nat} (hv : Ps w v hs) (hl : hs.length ≤ 1000000) (h1 : 1 ≤ b) (h2 : b ≤ 256) :
    Calls Try.prog 8 #[v, .int .i64 (b : Int)] w fun e w' => ∃ V l f bv, e = .returned (.tuple #[.int .u64 (V : Nat), bv, .int .i64 f]) ∧ OpIs b (hds b) hs V l f ∧ Nums w' bv (toI l) ∧ Grow w w' := by
  have hm5 := hds_le h2
  have hroom := hds_room b
  have hof := rof_any w 1 b (by decide) (by decide) h1 h2
  unfold OfTo at hof
  rw [show ((1 : Nat) : Int) = 1 from rfl] at hof
  obtain ⟨P, hP⟩ : ∃ P, P = plan 1 b := ⟨_, rfl⟩
  have hh : P.heads = (hds b : Nat) := by rw [hP]; rfl
  rw [← hP] at hof
  have HOF := Hid.mk' hof
  obtain ⟨m, hm⟩ : ∃ m, m = hds b := ⟨_, rfl⟩
  rw [← hm] at hh hm5 hroom ⊢
  have HH := Hid.mk' hh
  have HM := Hid.mk' hm
  have HROOM := Hid.mk' hroom
  have HV := Hid.mk' hv
  have HEL := Hid.mk' hv.elems
  obtain ⟨ao, cap, rfl, hg⟩ := hv.gen
  obtain ⟨n, hn⟩ : ∃ n, n = hs.length := ⟨_, rfl⟩
  rw [← hn] at hl hg ⊢
  rw [← hn] at HV
  have HN := Hid.mk' hn
  have HGC := Hid.mk' hg
  have hnil : ∀ w', Nums w' (.slice none 0 0) (toI []) := fun w' => ⟨nofun, by simp [toI], .inl ⟨rfl, .inl rfl⟩⟩
  have HNIL := Hid.mk' hnil
  have hwb : IntKind.u64.wrap (b : Int) = (b : Int) := wrapU b (by omega)
  clear hv hn hm hof hP hh hroom hg hnil
  go_enter Try.func8, Try.ntmps8
  go_wp2_with fail
  refine Calls.mono HOF.out ?_
  rintro e w1 ⟨v, rfl, ho, hg⟩
  obtain ⟨pa, pc, hve⟩ := ho.sl
  generalize P.levels.length = ln at hve
  subst hve
  have HG := Hid.mk' hg
  clear hg ho HOF
  go_upto_region 2 with (first
    | (refine wpList_runH rfl (exec_allocF rfl (zPl _)) ?_)
    | (refine wpList_store_at rfl _ _ _ rfl w1.heap.size 0 (pcells P (.slice pa ln pc)) rfl (by exact rfl) 48 [] (pcells Pn.zero noS) [] (var_new w1) rfl rfl iPl (pcells_one _ rfl) ?_; intro w2 hb2 hbut2; rw [List.nil_append, List.append_nil] at hb2)
    | fail)
  obtain ⟨g7, hgg⟩ : ∃ g, g = w1.heap.size := ⟨_, rfl⟩
  have hg2 := var_grow hbut2
  rw [← hgg] at hb2 ⊢
  have HG2 := Hid.mk' (HG.out.trans hg2)
  have c6 : w2.cell? ⟨g7, 6, none⟩ = some (.int .i64 (m : Nat)) := by rw [← HH.out]; exact hb2.cell 6
  clear hgg hb2 hbut2 hg2
  by_cases hnm : n = m
  · subst hnm
    have hne : ((n : Int) != (n : Int)) = false := by simp
    go_upto_region 7 with fail
    clear c6
    go_loopw [9] (fun iv wr => ∃ i : Nat, i ≤ n ∧ iv = .int .i64 i ∧ (∀ j, j < i → (hs.getD j []).length = 256) ∧ wr = w2) (fun iv _ => n - (intOf iv).toNat)
    case atStart => exact ⟨0, Nat.zero_le _, rfl, fun i hi => absurd hi (Nat.not_lt_zero _), rfl⟩
    case round =>
      obtain ⟨i, hi, rfl, hall, rfl⟩ := hrel
      have HALL := Hid.mk' hall
      clear hall
      by_cases hlt : i < n
      · obtain ⟨bb, off, rfl, -, hc⟩ := HGC.out (by omega)
        obtain ⟨u, hu, hbs⟩ := hc i hlt
        have hcc := grow_cell HG2.out hu
        obtain ⟨x, hx⟩ : ∃ x, x = hs.getD i [] := ⟨_, rfl⟩
        rw [← hx] at hbs
        obtain ⟨xa, xc, rfl, -⟩ := hbs.gen
        obtain ⟨xl, hxl⟩ : ∃ xl, xl = x.length := ⟨_, rfl⟩
        rw [← hxl] at hcc
        have HX := Hid.mk' hx
        have HXL := Hid.mk' hxl
        have hii : (i : Int) < (n : Int) := by omega
        clear hc hu hbs hx hxl
        by_cases h256 : xl = 256
        · subst h256
          go_wp2
          refine ⟨⟨i + 1, by omega, by go_num, fun j hj => ?_, trivial⟩, by simp [intOf]; omega⟩
          by_cases hji : j = i
          · rw [hji, ← HX.out]; exact HXL.out.symm
          · exact HALL.out j (by omega)
        · have hx2 : ((xl : Int) != 256) = true := by
            have : (xl : Int) ≠ 256 := by omega
            simpa using this
          have HF : Hid (OpIs b n hs 0 [] 3) := OpIs.form (.inr ⟨x, by rw [HX.out]; simp [List.getD, show i < hs.length by rw [← HN.out]; exact hlt], by rw [← HXL.out]; exact h256⟩)
          clear h256
          go_wp2
          exact bodyPost_ret (results_tmp3 rfl _ _ _) rfl ⟨0, [], 3, _, rfl, HF.out, HNIL.out _, HG2.out⟩
      · have hin : i = n := by omega
        have hall : ∀ x ∈ hs, x.length = 256 := fun x hx => by
          obtain ⟨j, hj, rfl⟩ := List.mem_iff_getElem.1 hx
          have := HALL.out j (by rw [hin, HN.out]; exact hj)
          simpa [List.getD, hj] using this
        have hflen := flat_len256 hs hall
        have hflt : ∀ z ∈ hs.flatten, z < 256 := fun z hz => by
          obtain ⟨x, hx, hz2⟩ := List.mem_flatten.1 hz
          exact HEL.out x hx z hz2
        have hver := jver_lt hflt (by rw [hflen, ← HN.out]; omega)
        have hcnt := jcnt_lt hflt (by rw [hflen, ← HN.out]; have := HROOM.out; omega)
        have hread := OpIs.read (b := b) (m := n) (hs := hs) h2 HROOM.out hver
        obtain ⟨F, hF⟩ : ∃ F, F = hs.flatten := ⟨_, rfl⟩
        have hjn := rjoin_any (HV.out.below HG2.out) (by rw [hflen, ← HN.out]; omega) (by rw [← HN.out]; omega)
        rw [← hF] at hflen hflt hver hcnt hread hjn
        rw [← HN.out] at hflen
        obtain ⟨V, hV⟩ : ∃ V, V = jver F := ⟨_, rfl⟩
        obtain ⟨N, hNN⟩ : ∃ N, N = jcnt F := ⟨_, rfl⟩
        rw [← hV, ← hNN] at hread
        rw [← hV] at hver
        rw [← hNN] at hcnt
        have HVE : Hid (val (F.take 8) = V) := hV.symm
        have HCE : Hid (val ((F.drop 8).take 4) = N) := hNN.symm
        have HJN := Hid.mk' hjn
        have HFL := Hid.mk' hflen
        have HFT := Hid.mk' hflt
        have HREAD := Hid.mk' hread
        have HVER := Hid.mk' hver
        have HIN := Hid.mk' hin
        clear hin hall hflen hflt hver hread hF hjn hV hNN hi HALL
        go_wp2_with fail
        refine Calls.mono HJN.out ?_
        rintro e w3 ⟨v3, rfl, ho3, hb3⟩
        have hg3 : Grow wr w3 := But.of hb3
        obtain ⟨g, fcap, RR, rfl, -, -, -, hfc, -⟩ := ho3.opn (by rw [HFL.out]; omega)
        rw [HFL.out] at hfc
        have HG3 := Hid.mk' (HG2.out.trans hg3)
        have hb3' := ho3.bs
        rw [HFL.out] at hb3' ⊢
        obtain ⟨fl, hfl⟩ : ∃ fl, fl = 256 * n := ⟨_, rfl⟩
        rw [← hfl] at hb3' hfc ⊢
        have HFLE := Hid.mk' hfl
        have HB3 := Hid.mk' hb3'
        have hfl1 : 256 ≤ fl := by omega
        have hfl2 : fl ≤ 1280 := by omega
        have HFC := Hid.mk' hfc
        have HS8 := Hid.mk' (fun w' => slice_hiJ (b := g) (so := 0) (m := fl) (cap := fcap) (n := 8) (by omega) w')
        have HS12 : Hid (∀ w' : World, (Instr.sliceAt 37 (.slice (some ⟨g, 0, none⟩) fl fcap) (some (.int .i64 8)) (some (.int .i64 12)) none).run Try.prog w' = .ok (.slice (some ⟨g, 8, none⟩) 4 (fcap - 8)) w') := fun w' => by
          have := slice_mid (b := g) (so := 0) (m := fl) (cap := fcap) (n := 8) (e := 12) (by omega) (by omega) (by omega) w'
          simpa using this
        have hb8 : Bs w3 (.slice (some ⟨g, 0, none⟩) 8 fcap) (F.take 8) := HB3.out.front (by rw [HFL.out]; omega) (fun h => by cases h)
        have hb12 : Bs w3 (.slice (some ⟨g, 0 + 8, none⟩) (12 - 8) (fcap - 8)) ((F.drop 8).take (12 - 8)) := Bs.mid HB3.out (by omega) (by rw [HFL.out]; omega)
        have hn8 := refNum_any hb8 (by rw [List.length_take]; omega)
        rw [HVE.out] at hn8
        have hn12 := refNum_any hb12 (by rw [List.length_take]; omega)
        rw [show (12 : Nat) - 8 = 4 from rfl, HCE.out, Nat.zero_add] at hn12
        have HN8 := Hid.mk' hn8
        have HN12 := Hid.mk' hn12
        clear ho3 hb3 hb3' hg3 hfl hfc hb8 hb12 hn8 hn12 HJN
        go_wp2_with (first
          | (refine wpList_runH rfl (exec_slc rfl rfl rfl rfl (HS8.out w3)) ?_)
          | fail)
        refine Calls.mono HN8.out ?_
        rintro e w4 ⟨rfl, hw⟩
        subst w4
        go_wp2_with (first
          | (refine wpList_runH rfl (exec_slc rfl rfl rfl rfl (HS12.out w3)) ?_)
          | fail)
        refine Calls.mono HN12.out ?_
        rintro e w4 ⟨rfl, hw⟩
        subst w4
        by_cases hNb : N ≤ b
        · have hNbi : ¬ (b : Int) < (N : Int) := by omega
          have hNbd : decide (b < N) = false := decide_eq_false (by omega)
          have hwN : IntKind.i64.wrap (N : Int) = (N : Int) := wrapI (by omega) (by omega)
          have H0 : Hid (Own w3 w3 (.slice none 0 0) (toI (jbls F 0))) := ⟨World.ownsRow_nil _ _ _ _, fun k hk => by cases hk⟩
          clear HS8 HS12 HN8 HN12
          go_upto_region 18 with fail
          go_loopw [13, 14] (fun xv iv wr => ∃ (k : Nat) (v : Value), v = xv ∧ k ≤ N ∧ iv = .int .i64 k ∧ Own w3 wr v (toI (jbls F k)) ∧ Grow w3 wr) (fun _ iv _ => N - (intOf iv).toNat)
          case atStart => exact ⟨0, _, rfl, Nat.zero_le _, rfl, H0.out, But.refl _ _⟩
          case round =>
            obtain ⟨k, v, hvv, hk, rfl, hown, hgr⟩ := hrel
            subst hvv
            clear H0
            have HOWN := Hid.mk' hown
            have HGR := Hid.mk' hgr
            obtain ⟨va, vc, hve⟩ := hown.sl
            rw [toI_len, jbls_len] at hve
            subst hve
            by_cases hlt : k < N
            · have hki : (k : Int) < (N : Int) := by omega
              obtain ⟨x, hx⟩ : ∃ x, x = jnum F k := ⟨_, rfl⟩
              have hx4 : x < 4294967296 := by rw [hx]; exact jnum_lt HFT.out (by rw [HFL.out]; have := HROOM.out; omega)
              obtain ⟨S, hS⟩ : ∃ S, S = 4 * k := ⟨_, rfl⟩
              obtain ⟨L, hL⟩ : ∃ L, L = 12 + S := ⟨_, rfl⟩
              obtain ⟨E, hE⟩ : ∃ E, E = 16 + S := ⟨_, rfl⟩
              have hw1 : IntKind.i64.wrap (4 * (k : Int)) = (S : Int) := by rw [wrapI (by omega) (by omega)]; omega
              have hw2 : IntKind.i64.wrap (12 + (S : Int)) = (L : Int) := by rw [wrapI (by omega) (by omega)]; omega
              have hw3 : IntKind.i64.wrap (16 + (S : Int)) = (E : Int) := by rw [wrapI (by omega) (by omega)]; omega
              have hwx : IntKind.i64.wrap (x : Int) = (x : Int) := wrapI (by omega) (by omega)
              have hEf : E ≤ fl := by have := HROOM.out; have := HFLE.out; omega
              have hsl := fun w' => slice_mid (b := g) (so := 0) (m := fl) (cap := fcap) (n := L) (e := E) (by omega) (by have := HFC.out; omega) (by have := HFC.out; omega) w'
              have hbm := Bs.mid (n := L) (e := E) (HB3.out.but hgr (fun _ _ _ h => h)) (by omega) (by rw [HFL.out]; have := HFLE.out; omega)
              rw [show E - L = 4 by omega, Nat.zero_add] at hbm
              simp only [show E - L = 4 by omega, Nat.zero_add] at hsl
              have hnm := refNum_any hbm (by rw [List.length_take]; omega)
              rw [show val ((F.drop L).take 4) = x by rw [hx, hL, hS]; rfl] at hnm
              have HSL := Hid.mk' hsl
              have HNM := Hid.mk' hnm
              have HX := Hid.mk' hx
              have HRW : Hid (wr.ownsRow 0 3 1 (.slice va k vc) k (numv (toI (jbls F k)))) := by
                have := hown.row
                rw [toI_len, jbls_len] at this
                exact this
              have HAL : Hid (Grow wr (wr.alloc (.cells #[.int .i64 (x : Int)] 3))) := (But.refl _ wr).alloc _
              have HBL : Hid (Blk (wr.alloc (.cells #[.int .i64 (x : Int)] 3)) wr.heap.size 3 (numv [(x : Int)])) := Blk.new (L := numv [(x : Int)]) rfl
              clear hx hS hL hE hEf hsl hbm hnm hown hgr
              go_wp2_with (first
                | (refine wpList_runH rfl (exec_slc rfl rfl rfl rfl (HSL.out wr)) ?_)
                | fail)
              refine Calls.mono HNM.out ?_
              rintro e w5 ⟨rfl, hw⟩
              subst w5
              go_wp2_with (first
                | (refine wpList_runH rfl (exec_row1 (v := .int .i64 (x : Int)) Try.underlying26 infNum (by decide) (by decide) rfl rfl rfl) ?_)
                | (refine wpList_someH rfl (exec_append (v := .slice va k vc) (n := k) (xs := numv (toI (jbls F k))) (news := numv [(x : Int)]) Try.underlying26 infNum rfl (by decide) rfl rfl (ownsRow_grow HRW.out HAL.out) rfl rfl (fun j u hj => HBL.out.cells0 j u hj) (fun u hu => by rw [show u = .int .i64 (x : Int) by simpa [numv] using hu]; rfl) (by omega) (by decide)) ?_; intro v6 w6 hap)
                | fail)
              have hal6 := HAL.out.size
              have hgs := HGR.out.size
              have hnew : ∀ j, (Value.slice va k vc).ownBlock = some j → w3.heap.size ≤ j := fun j hj => HOWN.out.new j hj
              refine ⟨⟨k + 1, _, rfl, by omega, by go_num, ?_, (HGR.out.trans HAL.out).then hap.but (fun i hi e => by have := hnew i e; omega)⟩, by simp [intOf]; omega⟩
              rw [jbls_next, ← HX.out]
              have e : toI (jbls F k ++ [x]) = toI (jbls F k) ++ [(x : Int)] := by simp [toI]
              rw [e]
              refine ⟨?_, fun j hj => ?_⟩
              · have := hap.own
                rw [List.length_append, toI_len, jbls_len, show numv (toI (jbls F k) ++ [(x : Int)]) = numv (toI (jbls F k)) ++ numv [(x : Int)] by simp [numv]]
                exact this
              · rcases hap.at' with e | e
                · rw [e] at hj; exact hnew j hj
                · rw [e] at hj
                  have := Option.some.inj hj
                  omega
            · have hkN : k = N := by omega
              obtain ⟨l, hll⟩ : ∃ l, l = jbls F k := ⟨_, rfl⟩
              have hmin : jbls F (min N b) = l := by rw [hll, hkN, Nat.min_eq_left hNb]
              have hread := HREAD.out
              rw [hmin] at hread
              have hx4 : ∀ x ∈ l, x < 4294967296 := fun x hx => by
                rw [hll] at hx
                obtain ⟨i, hi, rfl⟩ := List.mem_map.1 hx
                exact jnum_lt HFT.out (by rw [HFL.out]; have := HROOM.out; have := List.mem_range.1 hi; omega)
              have hlb : l.length ≤ b := by rw [hll, jbls_len]; omega
              have hnum : Nums wr (.slice va k vc) (toI l) := by
                rw [hll]
                refine Nums.ofRow (base := 0) hown.row (fun y hy => ?_) (by rw [toI_len, jbls_len]; omega)
                obtain ⟨z, hz, rfl⟩ := List.mem_map.1 hy
                rw [← hll] at hz
                have := hx4 z hz
                omega
              have hrh := rhead_any HVER.out hnum h1 h2 hlb hx4
              rw [← HM.out] at hrh
              have HRH := Hid.mk' hrh
              have HREAD2 := Hid.mk' hread
              have HNM := Hid.mk' hnum
              have HKN := Hid.mk' hkN
              have HG4 := Hid.mk' (HG3.out.trans hgr)
              clear hll hmin hread hx4 hlb hnum hrh hown hgr hkN HREAD HOWN
              go_wp2_with fail
              refine Calls.mono HRH.out ?_
              rintro e w5 ⟨v5, f5, rfl, hg5, ⟨hno, rfl, rfl⟩ | ⟨hall, rfl, hps5⟩⟩
              · have HO := Hid.mk' (HREAD2.out.2.1 (fun h => hno h.1))
                have HG5 := Hid.mk' (HG4.out.trans hg5)
                clear hno hg5
                go_wp2
                exact bodyPost_ret (results_tmp3 rfl _ _ _) rfl ⟨0, [], 3, _, rfl, HO.out, HNIL.out _, HG5.out⟩
              · have HG5 := Hid.mk' (HG4.out.trans hg5)
                have HNM5 := Hid.mk' (HNM.out.grow hg5)
                have HALL := Hid.mk' hall
                have HSA := Hid.mk' (sameall_any hps5 (HV.out.below HG5.out) (by rw [cutN_len]; omega) (by rw [← HN.out]; exact hl))
                obtain ⟨a5, c5, rfl, -⟩ := hps5.gen
                rw [cutN_len] at HSA ⊢
                clear hall hg5 hps5
                by_cases hq : cutN (hdB V l) n = hs
                · rw [decide_eq_true hq] at HSA
                  have HO := Hid.mk' (HREAD2.out.1 ⟨HALL.out, hq⟩)
                  clear hq
                  go_wp2_with fail
                  refine Calls.mono HSA.out ?_
                  rintro e w6 ⟨rfl, hg6⟩
                  have HG6 := Hid.mk' (HG5.out.trans hg6)
                  have HNM6 := Hid.mk' (HNM5.out.grow hg6)
                  clear hg6
                  go_wp2
                  exact bodyPost_ret (results_tmp3 rfl _ _ _) rfl ⟨V, l, 0, _, rfl, HO.out, HNM6.out, HG6.out⟩
                · rw [decide_eq_false hq] at HSA
                  have HO := Hid.mk' (HREAD2.out.2.1 (fun h => hq h.2))
                  clear hq
                  go_wp2_with fail
                  refine Calls.mono HSA.out ?_
                  rintro e w6 ⟨rfl, hg6⟩
                  have HG6 := Hid.mk' (HG5.out.trans hg6)
                  clear hg6
                  go_wp2
                  exact bodyPost_ret (results_tmp3 rfl _ _ _) rfl ⟨0, [], 3, _, rfl, HO.out, HNIL.out _, HG6.out⟩
        · have hNbi : (b : Int) < (N : Int) := by omega
          have hNbd : decide (b < N) = true := decide_eq_true (by omega)
          have HO := Hid.mk' (HREAD.out.2.2 (by omega))
          go_wp2
          exact bodyPost_ret (results_tmp3 rfl _ _ _) rfl ⟨0, [], 3, _, rfl, HO.out, HNIL.out _, HG3.out⟩
  · have hne : ((n : Int) != (m : Int)) = true := by
      have : (n : Int) ≠ (m : Int) := by omega
      simpa using this
    have HF : Hid (OpIs b m hs 0 [] 3) := OpIs.form (.inl (by rw [← HN.out]; exact hnm))
    clear hnm
    go_wp2
    exact bodyPost_ret (results_tmp3 rfl _ _ _) rfl ⟨0, [], 3, _, rfl, HF.out, HNIL.out _, HG2.out⟩
end Go.Proofs.Ytmlladpmecclbaa
/- journal's laws: great, awake. -/
namespace Go.Proofs.Ytmlladpmecclbaa
open Go.RowKit

/-- What great tells. -/
def GrTo (w : World) (xss : List (List Nat)) (e : Ending) (w' : World) : Prop := ∃ q, e = .returned (.bool q) ∧ (q = false → xss.flatten.length + xss.length ≤ 5000) ∧ w' = w
set_option maxRecDepth 100000 in
set_option maxHeartbeats 4000000 in
theorem jgreat_any {w : World} {v : Value} {xss : List (List Nat)} (hv : Ps w v xss) (hl : xss.length ≤ 140737488351232) :
    Calls Try.prog 5 #[v] w (GrTo w xss) := by
  obtain ⟨ao, cap, rfl, hg⟩ := hv.gen
  obtain ⟨n, hn⟩ : ∃ n, n = xss.length := ⟨_, rfl⟩
  rw [← hn] at hl hg ⊢
  have HN := Hid.mk' hn
  have HG := Hid.mk' hg
  clear hv hn hg
  go_enter Try.func5, Try.ntmps5
  go_upto_region 3 with fail
  go_loopw [3, 4] (fun nv iv wr => ∃ k N : Nat, k ≤ n ∧ iv = .int .i64 k ∧ nv = .int .i64 N ∧ N ≤ 10002 ∧ (N ≤ 5000 → (xss.take k).flatten.length + k = N) ∧ wr = w) (fun _ iv _ => n - (intOf iv).toNat)
  case atStart => exact ⟨0, 0, Nat.zero_le _, rfl, rfl, by omega, fun _ => by simp, rfl⟩
  case round =>
    obtain ⟨k, N, hk, rfl, rfl, hN, hs, rfl⟩ := hrel
    have HS := Hid.mk' hs
    clear hs
    by_cases hlt : k < n
    · by_cases hN5 : N ≤ 5000
      · obtain ⟨b, off, rfl, -, hc⟩ := HG.out (by omega)
        obtain ⟨u, hu, hbs⟩ := hc k hlt
        obtain ⟨x, hx⟩ : ∃ x, x = xss.getD k [] := ⟨_, rfl⟩
        rw [← hx] at hbs
        obtain ⟨xa, xc, rfl, -⟩ := hbs.gen
        have hxm := hbs.2.1
        obtain ⟨xl, hxl⟩ : ∃ xl, xl = x.length := ⟨_, rfl⟩
        rw [← hxl] at hu hxm
        obtain ⟨mn, hmn⟩ : ∃ mn, mn = min xl 5001 := ⟨_, rfl⟩
        have hmin : min (xl : Int) 5001 = (mn : Int) := by omega
        have hm2 : mn ≤ 5001 := by omega
        have hki : (k : Int) < (n : Int) := by omega
        have hNi : (N : Int) ≤ 5000 := by omega
        have HX := Hid.mk' hx
        have HXL := Hid.mk' hxl
        have HMN := Hid.mk' hmn
        clear hc hbs hx hxl hmn
        go_wp2
        refine ⟨⟨k + 1, N + 1 + mn, by omega, by go_num, by go_num, by omega, fun h => ?_, trivial⟩, by simp [intOf]; omega⟩
        rw [flat_next xss k (by rw [← HN.out]; exact hlt), List.length_append, ← HX.out, ← HXL.out]
        have := HS.out hN5
        have := HMN.out
        omega
      · have hNi : ¬ (N : Int) ≤ 5000 := by omega
        have hNj : (5000 : Int) < (N : Int) := by omega
        have hki : (k : Int) < (n : Int) := by omega
        go_wp2
        go_ret
        exact ⟨true, rfl, nofun, rfl⟩
    · have hki : ¬ (k : Int) < (n : Int) := by omega
      by_cases hN5 : N ≤ 5000
      · have hNi : ¬ (5000 : Int) < (N : Int) := by omega
        have hkn : k = n := by omega
        have hfin : xss.flatten.length + n ≤ 5000 := by
          have := HS.out hN5
          rw [hkn, List.take_of_length_le (by rw [HN.out]; exact Nat.le_refl _)] at this
          omega
        have HF := Hid.mk' hfin
        clear hkn hfin
        go_wp2
        go_ret
        exact ⟨false, rfl, fun _ => by rw [← HN.out]; exact HF.out, rfl⟩
      · have hNi : (5000 : Int) < (N : Int) := by omega
        go_wp2
        go_ret
        exact ⟨true, rfl, nofun, rfl⟩
theorem ex_blk : (cutB (hdB 1 [5]) 0).getD 7 0 = 1 ∧ (cutB (hdB 1 [5]) 0).getD 11 0 = 1 ∧ (cutB (hdB 1 [5]) 0).getD 15 0 = 5 := by decide +kernel
theorem hds_4 : hds 4 = 1 := by decide +kernel
set_option maxRecDepth 100000 in
set_option maxHeartbeats 8000000 in
theorem jawake_any (w : World) : Calls Try.prog 6 #[] w fun e w' => e = .returned (.bool true) ∧ Grow w w' := by
  have HAL : Hid (Grow w (w.alloc (.cells #[.int .i64 5] 3))) := (But.refl _ w).alloc _
  have HB : Hid (Blk (w.alloc (.cells #[.int .i64 5] 3)) w.heap.size 3 (numv [5])) := Blk.new (L := numv [5]) rfl
  have hnum := nums_lit (ks := [5]) HB.out (by decide) (by decide) (by decide)
  have hhd := jhead_any (V := 1) (b := 4) (l := [5]) (by decide) hnum (by decide) (by decide) (by decide) (by decide)
  rw [hds_4] at hhd
  have HHD := Hid.mk' hhd
  clear hnum hhd HB
  go_enter Try.func6, Try.ntmps6
  go_wp2_with (first
    | (refine wpList_runH rfl (exec_row1 (v := .int .i64 5) Try.underlying26 infNum (by decide) (by decide) rfl rfl rfl) ?_)
    | fail)
  refine Calls.mono HHD.out ?_
  rintro e w1 ⟨v, G, rfl, hnb, hg⟩
  obtain ⟨b, rc, cap, R, hve, hcell, h256, hbk, hl, hz, -, -, -⟩ := hnb.opn (i := 0) (by decide)
  subst hve
  have HG := Hid.mk' (HAL.out.trans hg)
  obtain ⟨e7, e11, e15⟩ := ex_blk
  generalize hZ : cutB (hdB 1 [5]) 0 = Z at hbk hl e7 e11 e15
  have c7 : w1.cell? ⟨G 0, 7, none⟩ = some (.int .u8 1) := by rw [hbk.cell, List.getElem?_append_left (by simp [u8s]; omega), u8s_get _ _ (by omega), e7]; rfl
  have c11 : w1.cell? ⟨G 0, 11, none⟩ = some (.int .u8 1) := by rw [hbk.cell, List.getElem?_append_left (by simp [u8s]; omega), u8s_get _ _ (by omega), e11]; rfl
  have c15 : w1.cell? ⟨G 0, 15, none⟩ = some (.int .u8 5) := by rw [hbk.cell, List.getElem?_append_left (by simp [u8s]; omega), u8s_get _ _ (by omega), e15]; rfl
  obtain ⟨g, hgg⟩ : ∃ g, g = G 0 := ⟨_, rfl⟩
  rw [← hgg] at hcell c7 c11 c15
  clear hnb hg hbk hl hz e7 e11 e15 hZ hgg h256 HHD
  go_wp2
  go_ret
  exact ⟨rfl, HG.out⟩
end Go.Proofs.Ytmlladpmecclbaa
/- What a walk is told of a slice of slices of bytes that came in. -/
namespace Go.Proofs.Ytmlladpmecclbaa
open Go.ChangeShapes Go.WideShapes Go.ChangeAt Go.RowKit Go.Deep

section
variable {H : Type} {enc : TypeId × Value → H} {P : Program} {w : World} {base : Nat} {spare : Nat → Bool} {held : Bool}

theorem weightsAll_mem {e : TypeId} : ∀ {l : List (DataW H)} {d : DataW H}, d ∈ l → ∀ n ∈ d.weights P e, n ∈ DataW.weightsAll P e l
  | x :: r, d, hd, n, hn => by
    simp only [DataW.weightsAll, List.mem_append]
    rcases List.mem_cons.1 hd with rfl | hd
    · exact .inl hn
    · exact .inr (weightsAll_mem hd n hn)

/-- Bytes inside of what came in. -/
theorem view_inner {t e : TypeId} {v : Value} {d : DataW H} {ps : List MemPlace} {fuel : Nat}
    (hu : P.underlying t = some (.slice e)) (hf : P.underlying e = some (.int .u8)) (hc : P.cellsOf e = 1) (hb : P.bytesOf e = 1)
    (h : DataW.trod enc P w base spare held fuel t [v] = some (d, ps)) (hlt : ∀ x ∈ ps, x.block < w.heap.size) (hsz : ∀ n ∈ d.weights P t, n ≤ reachBytes) : ∃ zs, Bs w v zs ∧ zs.length ≤ 140737488351232 := by
  rcases open_slice1 hu hc h with ⟨hcs, _⟩ | ⟨a, len, cap, m, n, V, D, Pl, hcs, _, hl, hm, hmm, hx, hcell⟩
  · simp only [List.cons.injEq, and_true] at hcs
    subst hcs
    exact ⟨[], Bs.nil _, by simp⟩
  · simp only [List.cons.injEq, and_true] at hcs
    subst hcs
    simp only [Prod.mk.injEq] at hx
    obtain ⟨rfl, rfl⟩ := hx
    have hlm : len ≤ m := by rw [hmm]; split <;> omega
    have hreach : len * 1 ≤ 140737488351232 := by
      have := hsz ((len + (m - len)) * 1) (by simp [DataW.weights, hu, hb])
      simp only [reachBytes] at this
      omega
    have hfl : ∀ i, i < len → ∃ b : Nat, V i = .int .u8 (b : Int) ∧ b < 256 := by
      intro i hi
      obtain ⟨b, hb1, _, hw0⟩ := DataW.trod_int hf (hcell i (by omega)).2
      obtain ⟨hw, hw2⟩ : 0 ≤ b ∧ b < 256 := by
        have h8 : IntKind.u8.min ≤ b ∧ b ≤ IntKind.u8.max := by simpa [Lit.wf, go_sem] using hw0
        have e1 : IntKind.u8.min = 0 := rfl
        have e2 : IntKind.u8.max = 255 := rfl
        omega
      simp only [List.cons.injEq, and_true] at hb1
      exact ⟨b.toNat, by rw [hb1, Int.toNat_of_nonneg hw], by omega⟩
    obtain ⟨B, hB⟩ := choose_lt (α := Nat) (p := fun i b => V i = .int .u8 (b : Int) ∧ b < 256) hfl
    refine ⟨(List.range len).map B, ⟨?_, by simp; omega, ?_⟩, by simpa using hreach⟩
    · intro z hz
      obtain ⟨i, hi, rfl⟩ := List.mem_map.1 hz
      exact (hB i (by simpa using hi)).2
    · by_cases h0 : len = 0
      · subst h0; exact .inl ⟨by simp, .inr ⟨_, _, rfl⟩⟩
      · right
        obtain ⟨b, off, spot⟩ := a
        have hspot : spot = none := by simpa [Addr.add] using World.cell?_spot (hcell 0 (by omega)).1
        subst hspot
        refine ⟨by simp; omega, b, off, cap, by simp, by simpa using hl, hlt (.cell b off) (List.mem_append_left _ (MemPlace.mem_row.2 ⟨0, by omega, by simp⟩)), ?_⟩
        intro i hi
        have hi' : i < len := by simpa using hi
        rw [← add_plain, (hcell i (by omega)).1, (hB i hi').1]
        simp [hi']

/-- Slices of bytes that came in. -/
theorem view_parts {t e q : TypeId} {v : Value} {d : DataW H} {ps : List MemPlace} {r : Reach} {b0 : Nat} {ts : List TypeId} {ds : List (DataW H)} {j : Nat}
    (hu : P.underlying t = some (.slice e)) (he : P.underlying e = some (.slice q)) (hq : P.underlying q = some (.int .u8)) (hce : P.cellsOf e = 1) (hcq : P.cellsOf q = 1) (hbe : P.bytesOf e = 24) (hbq : P.bytesOf q = 1)
    (hval : Value.okWide P w r b0 t v) (h : DataW.Trod enc P w base spare held t v d ps) (hlt : ∀ x ∈ ps, x.block < w.heap.size)
    (hsz : (DataW.weightsEach P ts ds).all (· ≤ reachBytes) = true) (ht : ts[j]? = some t) (hd : ds[j]? = some d) :
    ∃ xss, Ps w v xss ∧ xss.length * 24 ≤ 140737488351232 ∧ ∀ x ∈ xss, x.length ≤ 140737488351232 := by
  obtain ⟨a0, len, cap, rfl⟩ := okWide_slice hu hval
  obtain ⟨fuel, hf1⟩ := h
  rcases open_slice1 hu hce hf1 with ⟨hcs, _⟩ | ⟨a, len', cap', m, n, V, D, Pl, hcs, _, hl, hm, hmm, hx, hcell⟩
  · simp [Value.cells] at hcs
    obtain ⟨rfl, rfl, rfl⟩ := hcs
    exact ⟨[], .inl ⟨rfl, .inl rfl⟩, by simp, by simp⟩
  · simp [Value.cells] at hcs
    obtain ⟨rfl, rfl, rfl⟩ := hcs
    simp only [Prod.mk.injEq] at hx
    obtain ⟨rfl, rfl⟩ := hx
    have hlm : len ≤ m := by rw [hmm]; split <;> omega
    have hreach : len * 24 ≤ 140737488351232 := by
      have := sized_slice hsz ht hd hu
      rw [hbe] at this
      simp only [List.length_map, List.length_range, reachBytes] at this
      omega
    have hfl : ∀ i, i < len → ∃ zs : List Nat, Bs w (V i) zs ∧ zs.length ≤ 140737488351232 := by
      intro i hi
      refine view_inner he hq hcq hbq (hcell i (by omega)).2 (fun x hx => hlt x ?_) (fun k hk => ?_)
      · exact List.mem_append_right _ (List.mem_flatMap.2 ⟨i, by simp; omega, hx⟩)
      · have hm2 : k ∈ (DataW.slice ((List.range len).map D) ((List.range (m - len)).map fun j => D (len + j))).weights P t := by
          simp only [DataW.weights, hu]
          refine List.mem_cons_of_mem _ (List.mem_append_left _ (weightsAll_mem (d := D i) ?_ k hk))
          exact List.mem_map.2 ⟨i, by simpa using hi, rfl⟩
        have := List.all_eq_true.1 hsz _ (DataW.weights_mem_each ht hd k hm2)
        simpa using this
    obtain ⟨B, hB⟩ := choose_lt (α := List Nat) (p := fun i zs => Bs w (V i) zs ∧ zs.length ≤ 140737488351232) hfl
    refine ⟨(List.range len).map B, ?_, by simpa using hreach, ?_⟩
    · by_cases h0 : len = 0
      · subst h0; exact .inl ⟨by simp, .inr ⟨_, _, rfl⟩⟩
      · right
        obtain ⟨b, off, spot⟩ := a
        have hspot : spot = none := by simpa [Addr.add] using World.cell?_spot (hcell 0 (by omega)).1
        subst hspot
        refine ⟨by simp; omega, b, off, cap, by simp, hlt (.cell b off) (List.mem_append_left _ (MemPlace.mem_row.2 ⟨0, by omega, by simp⟩)), ?_⟩
        intro i hi
        have hi' : i < len := by simpa using hi
        refine ⟨V i, ?_, ?_⟩
        · rw [← add_plain]; exact (hcell i (by omega)).1
        · have e : ((List.range len).map B).getD i [] = B i := by simp [List.getD, hi']
          rw [e]; exact (hB i hi').1
    · intro x hx
      obtain ⟨i, hi, rfl⟩ := List.mem_map.1 hx
      exact (hB i (by simpa using hi)).2
end
end Go.Proofs.Ytmlladpmecclbaa
/- Arrays of bytes that came in, by value, as numbers. -/
namespace Go.Proofs.Ytmlladpmecclbaa
open Go.ChangeShapes Go.WideShapes Go.ChangeAt Go.RowKit Go.Deep

section
variable {H : Type} {enc : TypeId × Value → H} {P : Program} {w : World} {base : Nat} {spare : Nat → Bool} {held : Bool}

theorem mapM_eachN {α β : Type} {f : α → Option β} : ∀ (L : List α) (xs : List β), L.mapM f = some xs → ∀ a ∈ L, ∃ y, f a = some y
  | [], _, _, a, ha => by cases ha
  | b :: L, xs, h, a, ha => by
    rw [List.mapM_cons] at h
    simp only [bind, Option.bind_eq_some_iff, pure, Option.some.injEq] at h
    obtain ⟨y, hy, ys, hys, rfl⟩ := h
    rcases List.mem_cons.1 ha with rfl | ha
    · exact ⟨y, hy⟩
    · exact mapM_eachN L ys hys a ha
/-- A byte by its number. -/
theorem byte_num {b : Int} (h : (Lit.int .u8 b).wf = true) : ∃ x : Nat, b = (x : Int) ∧ x < 256 := by
  have h1 : IntKind.u8.min ≤ b ∧ b ≤ IntKind.u8.max := by simpa [Lit.wf] using h
  have e1 : IntKind.u8.min = 0 := rfl
  have e2 : IntKind.u8.max = 255 := rfl
  exact ⟨b.toNat, by omega, by omega⟩
theorem view_arrN {t e : TypeId} {n : Nat} {v : Value} {d : DataW H} {ps : List MemPlace} {r : Reach} {b0 : Nat} {ts : List TypeId} {ds : List (DataW H)} {j : Nat}
    (hu : P.underlying t = some (.array n e)) (hf : P.underlying e = some (.int .u8)) (hc : P.cellsOf e = 1) (hct : P.cellsOf t = n)
    (hval : Value.okWide P w r b0 t v) (h : DataW.Trod enc P w base spare held t v d ps) (_hlt : ∀ x ∈ ps, x.block < w.heap.size)
    (_hsz : (DataW.weightsEach P ts ds).all (· ≤ reachBytes) = true) (_ht : ts[j]? = some t) (_hd : ds[j]? = some d) : ∃ b : List Nat, v = .agg (u8s b).toArray ∧ b.length = n ∧ ∀ z ∈ b, z < 256 := by
  simp only [Value.okWide, hu] at hval
  obtain ⟨cs, rfl, hs, _⟩ := hval
  rw [hct] at hs
  obtain ⟨fuel, hf1⟩ := h
  cases fuel with
  | zero => simp [DataW.trod] at hf1
  | succ m =>
    rw [DataW.trod_step] at hf1
    unfold DataW.trodStep at hf1
    simp only [hu, Value.cells] at hf1
    rw [if_pos (by rw [hct]; simpa using hs)] at hf1
    simp only [Option.map_eq_some_iff] at hf1
    obtain ⟨xs, hxs, _⟩ := hf1
    have hel : ∀ i, i < n → ∃ x : Nat, cs[i]? = some (.int .u8 (x : Int)) ∧ x < 256 := by
      intro i hi
      obtain ⟨y, hy⟩ := mapM_eachN _ _ hxs i (by simpa using hi)
      obtain ⟨b, hb, _, hw⟩ := DataW.trod_int hf hy
      obtain ⟨x, rfl, hx⟩ := byte_num hw
      refine ⟨x, ?_, hx⟩
      rw [hc, Nat.mul_one] at hb
      have hlt : i < cs.toList.length := by simp; omega
      rw [List.drop_eq_getElem_cons hlt, List.take_succ_cons, List.take_zero] at hb
      simp only [List.cons.injEq, and_true] at hb
      rw [Array.getElem?_eq_getElem (by omega)]
      simpa using hb
    obtain ⟨B, hB⟩ := choose_lt (α := Nat) (p := fun i x => cs[i]? = some (.int .u8 (x : Int)) ∧ x < 256) hel
    refine ⟨(List.range n).map B, ?_, by simp, fun z hz => by
      obtain ⟨i, hi, rfl⟩ := List.mem_map.1 hz
      exact (hB i (List.mem_range.1 hi)).2⟩
    congr 1
    apply Array.ext_getElem?
    intro i
    by_cases hi : i < n
    · rw [(hB i hi).1]
      simp [u8s, hi]
    · rw [Array.getElem?_eq_none (by omega), Array.getElem?_eq_none (by simp [u8s]; omega)]
/-- A slice that came in has no more than it has room for. -/
theorem view_room {t e : TypeId} {v : Value} {d : DataW H} {ps : List MemPlace} {r : Reach} {b0 : Nat} (hu : P.underlying t = some (.slice e)) (hce : P.cellsOf e = 1)
    (hval : Value.okWide P w r b0 t v) (h : DataW.Trod enc P w base spare held t v d ps) : ∀ ao n c, v = .slice ao n c → n ≤ c := by
  obtain ⟨a0, len, cap, rfl⟩ := okWide_slice hu hval
  obtain ⟨fuel, hf1⟩ := h
  rintro ao n c e
  cases e
  rcases open_slice1 hu hce hf1 with ⟨hcs, _⟩ | ⟨a, len', cap', m, n, V, D, Pl, hcs, _, hl, hm, hmm, hx, hcell⟩
  · simp [Value.cells] at hcs
    omega
  · simp [Value.cells] at hcs
    omega
end
end Go.Proofs.Ytmlladpmecclbaa
/- A byte of a row of blocks is turned: it is another row. -/
namespace Go.Proofs.Ytmlladpmecclbaa
open Go.RowKit

theorem xorb (a b : Nat) (ha : a < 256) (hb : b < 256) : a ^^^ b < 256 := Nat.xor_lt_two_pow (n := 8) ha hb
theorem range_getD {L : List (List Nat)} {n : Nat} (h : n = L.length) : (List.range n).map (fun i => L.getD i []) = L := by
  refine eq_of_getD2 (by simp [h]) (fun i hi => ?_)
  have : i < n := by simpa using hi
  simp [List.getD, this]
/-- A byte of a row turned is another row. -/
theorem upd_ne {L : List (List Nat)} {n q : Nat} {zs : List Nat} (hq : q < n) (h : L.getD q [] ≠ zs) : L ≠ (List.range n).map (upd (fun i => L.getD i []) q zs) := fun e => by
  have := congrArg (fun l => l.getD q []) e
  simp only [List.getD, List.getElem?_map, List.getElem?_range hq, Option.map_some, Option.getD_some, upd_same] at this
  exact h this
theorem xor_ne {a b : Nat} (hb : b ≠ 0) : a ^^^ b ≠ a := fun e => hb (by
  have : a ^^^ (a ^^^ b) = a ^^^ a := by rw [e]
  rw [← Nat.xor_assoc, Nat.xor_self, Nat.zero_xor] at this
  exact this)
theorem set_ne {L : List Nat} {m y : Nat} (hm : m < L.length) (h : y ≠ L.getD m 0) : L ≠ L.set m y := fun e => by
  have := congrArg (fun l => l.getD m 0) e
  simp only [List.getD, List.getElem?_set_self hm, Option.getD_some] at this
  exact h this.symm
end Go.Proofs.Ytmlladpmecclbaa
