/- The reference's begun, Of, Same. -/
import Derived.Test.YtidblaepklgkcaaPlAwake
namespace Go.Proofs.Ytidblaepklgkcaa
open Go.RowKit

set_option maxRecDepth 100000 in
theorem rbegun_any (w : World) (n s : Nat) (h1 : n ≤ 100000) (h0 : 1 ≤ s) (h2 : s ≤ 100000) : Calls Try.prog 40 #[.int .i64 (n : Int), .int .i64 (s : Int)] w fun e w' => e = .returned (.int .i64 (bg n s : Int)) ∧ w' = w := by
  obtain ⟨N, hN⟩ : ∃ N : Int, N = (n : Int) := ⟨_, rfl⟩
  obtain ⟨S, hS⟩ : ∃ S : Int, S = (s : Int) := ⟨_, rfl⟩
  rw [← hN, ← hS]
  have hN1 : N ≤ 100000 := by omega
  have hS0 : 1 ≤ S := by omega
  have hS1 : S ≤ 100000 := by omega
  have HB : Hid (∀ k : Nat, (k * s < n ↔ k < bg n s)) := fun k => by
    unfold bg
    rw [Nat.lt_div_iff_mul_lt (by omega)]
    omega
  have HNS := Hid.mk' (And.intro hN hS)
  have HBB : Hid (bg n s ≤ 200000) := Hid.mk' (Nat.le_trans (Nat.div_le_self _ _) (by omega))
  clear hN hS h1 h0 h2
  go_enter Try.func40, Try.ntmps40
  go_wp2
  go_loopw [5] (fun kv wr => ∃ k : Nat, kv = .int .i64 k ∧ k ≤ bg n s ∧ wr = w) (fun kv _ => bg n s - (intOf kv).toNat)
  case atStart => exact ⟨0, rfl, Nat.zero_le _, rfl⟩
  case round =>
    obtain ⟨k, rfl, hk, rfl⟩ := hrel
    have hki : (k : Int) ≤ 200000 := by have := HBB.out; omega
    have hmx : (k : Int) * S = ((k * s : Nat) : Int) := by rw [HNS.out.2, Int.natCast_mul]
    obtain ⟨M, hM⟩ : ∃ M : Int, M = ((k * s : Nat) : Int) := ⟨_, rfl⟩
    rw [← hM] at hmx
    have hM1 : M ≤ 30000000000 := by
      have h5 : k * s ≤ 200000 * 100000 := Nat.mul_le_mul (by omega) (by have := HNS.out.2; omega)
      omega
    have hM0 : 0 ≤ M := by omega
    by_cases hlt : k < bg n s
    · have hlti : M < N := by
        have := (HB.out k).2 hlt
        have := HNS.out.1
        omega
      clear hM
      go_wp2
      exact ⟨⟨k + 1, by go_num, by omega, trivial⟩, by simp [intOf]; omega⟩
    · have hlti : ¬ M < N := by
        have h6 : ¬ k * s < n := fun h => hlt ((HB.out k).1 h)
        have := HNS.out.1
        omega
      have hke : k = bg n s := by omega
      clear hM
      subst hke
      go_wp2
      go_ret
      exact ⟨rfl, rfl⟩
/-- What an append amid the reference's Of leaves. -/
theorem OfM.app {w wr wa w4 w5 : World} {g0 g1 rl : Nat} {r v4 : Value} {A : List Nat} {m m2 : Nat} {p : Pn} (h : OfM w wr g0 g1 r (A ++ [m]) p) (hrl : rl = A.length + 1) (ha : Grow wr wa) (hap : Appd wa w4 3 1 r v4 (rl + 1) (numv (toI (A ++ [m])) ++ numv [(m2 : Int)])) (hb : Blk w5 g1 42 (pcells p v4)) (k : But (· = g1) w4 w5) : OfM w w5 g0 g1 v4 ((A ++ [m]) ++ [m2]) p := by
  have hl : (toI (A ++ [m])).length = rl := by rw [toI_len, List.length_append, List.length_singleton, hrl]
  rw [← hl] at hap
  obtain ⟨h5, h6⟩ := (h.own.grow ha).more hap (h.grow.trans ha)
  have hn : ∀ k, v4.ownBlock = some k → k ≠ g0 ∧ k ≠ g1 := fun j hj => by
    rcases hap.at' with e | e
    · exact h.nv j (by rw [← e]; exact hj)
    · rw [e] at hj
      have := Option.some.inj hj
      have := ha.size
      have := h.one.lt
      have := h.zero.lt
      exact ⟨by omega, by omega⟩
  refine ⟨hb, ((h.zero.but ha (fun h => h)).but hap.but (fun e => (h.nv g0 e).1 rfl)).but k h.ne.1, ?_, h6.then k (fun j hj e => by have := h.ne.2.2; omega), h.ne, hn⟩
  rw [show toI ((A ++ [m]) ++ [m2]) = toI (A ++ [m]) ++ [(m2 : Int)] by unfold toI; rw [List.map_append]; rfl]
  exact h5.but k (fun j hj e => (hn j hj).2 e)
set_option maxRecDepth 100000 in
theorem rof_not (w : World) (x y : Int) (h : ¬ (1 ≤ x ∧ x ≤ 4096 ∧ 1 ≤ y ∧ y ≤ 256)) : Calls Try.prog 18 #[.int .i64 x, .int .i64 y] w fun e w' => e = .returned (.tuple #[pval Pn.zero noS, .int .i64 1]) ∧ Grow w w' := by
  obtain ⟨g0, hg0⟩ : ∃ g, g = w.heap.size := ⟨_, rfl⟩
  obtain ⟨W0, hW0⟩ : ∃ W0, W0 = w.alloc (.cells (pcells Pn.zero noS).toArray 42) := ⟨_, rfl⟩
  have hT0 : Grow w W0 := by rw [hW0]; exact (But.refl _ w).alloc _
  have hB0 : Blk W0 g0 42 (pcells Pn.zero noS) := by rw [hW0]; exact Blk.new hg0.symm
  have HT0 := Hid.mk' hT0
  have HB0 := Hid.mk' hB0
  have HG := Hid.mk' hg0
  have HGE : Hid (w.heap.size ≤ g0) := Hid.mk' (by omega)
  have HW := Hid.mk' hW0
  clear hg0 hW0 hT0 hB0
  rcases (by omega : x < 1 ∨ (¬ x < 1 ∧ 4096 < x) ∨ (¬ x < 1 ∧ ¬ 4096 < x ∧ y < 1) ∨ (¬ x < 1 ∧ ¬ 4096 < x ∧ ¬ y < 1 ∧ 256 < y)) with h1 | ⟨h1, h2⟩ | ⟨h1, h2, h3⟩ | ⟨h1, h2, h3, h4⟩
  all_goals
    clear h
    go_enter Try.func18, Try.ntmps18
    go_upto_region 1 with (first
      | (refine wpList_runH rfl (exec_allocF rfl (zPl _)) ?_)
      | fail)
    rw [← HW.out, ← HG.out]
    clear HW HG
    go_upto_region 2 with fail
    go_wp2_with (first
      | (refine wpList_store_at rfl _ _ _ rfl g0 0 (pcells Pn.zero noS) rfl rfl 42 [] (pcells Pn.zero noS) [] (by simpa using HB0.out) rfl rfl iPl (pcells_one _ rfl) ?_; intro w3 hb3 hbut3; rw [List.nil_append, List.append_nil] at hb3)
      | fail)
    refine bodyPost_ret (results_plan_tmp rfl _ _ g0 _ _ _ _ rfl hb3 Try.underlying42 rfl iPl rfl) rfl ⟨rfl, ?_⟩
    exact HT0.out.then hbut3 (fun b hb e => by have := HGE.out; omega)
set_option maxRecDepth 100000 in
set_option maxHeartbeats 4000000 in
theorem rof_any (w : World) (n b : Nat) (h1 : 1 ≤ n) (h2 : n ≤ 4096) (h3 : 1 ≤ b) (h4 : b ≤ 256) : Calls Try.prog 18 #[.int .i64 (n : Int), .int .i64 (b : Int)] w (OfTo w n b) := by
  obtain ⟨g0, hg0⟩ : ∃ g, g = w.heap.size := ⟨_, rfl⟩
  obtain ⟨W0, hW0⟩ : ∃ W0, W0 = w.alloc (.cells (pcells Pn.zero noS).toArray 42) := ⟨_, rfl⟩
  have hT0 : Grow w W0 := by rw [hW0]; exact (But.refl _ w).alloc _
  have hB0 : Blk W0 g0 42 (pcells Pn.zero noS) := by rw [hW0]; exact Blk.new hg0.symm
  obtain ⟨g1, hg1⟩ : ∃ g, g = W0.heap.size := ⟨_, rfl⟩
  obtain ⟨W1, hW1⟩ : ∃ W1, W1 = W0.alloc (.cells (pcells Pn.zero noS).toArray 42) := ⟨_, rfl⟩
  have hT1 : Grow w W1 := by rw [hW1]; exact hT0.alloc _
  have hB1 : Blk W1 g1 42 (pcells Pn.zero noS) := by rw [hW1]; exact Blk.new hg1.symm
  have hB01 : Blk W1 g0 42 (pcells Pn.zero noS) := by rw [hW1]; exact hB0.but ((But.refl (fun _ => False) W0).alloc _) (fun h => h)
  have HNE : Hid (g0 ≠ g1 ∧ w.heap.size ≤ g0 ∧ w.heap.size ≤ g1) := by
    have := hB0.lt
    have := hT0.size
    exact ⟨by omega, by omega, by omega⟩
  have HT1 := Hid.mk' hT1
  have HB1 := Hid.mk' hB1
  have HB01 := Hid.mk' hB01
  have HG0 := Hid.mk' hg0
  have HG1 := Hid.mk' hg1
  have HW0 := Hid.mk' hW0
  have HW1 := Hid.mk' hW1
  obtain ⟨c, hc⟩ : ∃ c, c = bg n 16 := ⟨_, rfl⟩
  have hc1 : 1 ≤ c := by rw [hc]; unfold bg; omega
  have hc2 : c ≤ 256 := by rw [hc]; unfold bg; omega
  obtain ⟨L, hL⟩ : ∃ L, L = lvs c := ⟨_, rfl⟩
  have hLL := lvs_le hc1 hc2
  rw [← hL] at hLL
  obtain ⟨nd, hnd⟩ : ∃ nd, nd = L.sum := ⟨_, rfl⟩
  obtain ⟨q, hq⟩ : ∃ q : Nat, q = 12 + 4 * b := ⟨_, rfl⟩
  obtain ⟨hs, hhs⟩ : ∃ hs, hs = bg q 256 := ⟨_, rfl⟩
  have hsb : hs ≤ 5 := by rw [hhs]; unfold bg; omega
  obtain ⟨hd, hhd⟩ : ∃ hd, hd = n + c + nd := ⟨_, rfl⟩
  have HPL : Hid (plan n b = ⟨n, b, c, toI L, nd, hd, hs, (hd + hs : Nat), (hd + hs + b : Nat), (hd + hs + b + b : Nat)⟩) := by
    subst hhd hhs hq hnd hL hc
    rfl
  have HBG1 := Hid.mk' (fun w => rbegun_any w n 16 (by omega) (by decide) (by decide))
  have HBG2 := Hid.mk' (fun w => rbegun_any w q 256 (by omega) (by decide) (by decide))
  have HBG3 := Hid.mk' (fun w => rbegun_any w c 8 (by omega) (by decide) (by decide))
  obtain ⟨m0, hm0⟩ : ∃ m0, m0 = bg c 8 := ⟨_, rfl⟩
  rw [← hm0] at HBG3
  have HLE : Hid (L = lvN 3 m0 ∧ 1 ≤ m0 ∧ m0 ≤ 8 ^ 3) := Hid.mk' ⟨by rw [hL, hm0]; rfl, by rw [hm0]; exact bg_pos hc1, by rw [hm0]; exact bg8 (k := 3) (by omega)⟩
  rw [← hc] at HBG1
  rw [← hhs] at HBG2
  have HLL := Hid.mk' hLL
  have HND := Hid.mk' hnd
  have en : (n : Int) ≤ 4096 := by omega
  have en1 : (1 : Int) ≤ (n : Int) := by omega
  have eb : (b : Int) ≤ 256 := by omega
  have eb1 : (1 : Int) ≤ (b : Int) := by omega
  have n1 : ¬ (n : Int) < 1 := by omega
  have n2 : ¬ (4096 : Int) < (n : Int) := by omega
  have b1 : ¬ (b : Int) < 1 := by omega
  have b2 : ¬ (256 : Int) < (b : Int) := by omega
  have ec : (c : Int) ≤ 256 := by omega
  have hds : hd ≤ 4389 := by have := hLL.2.2.1; omega
  have HQ : Hid ((12 : Int) + 4 * (b : Int) = (q : Int)) := Hid.mk' (by omega)
  have HSM : Hid ((n : Int) + (c : Int) + (nd : Int) = (hd : Int) ∧ (hd : Int) + (hs : Int) = ((hd + hs : Nat) : Int) ∧ ((hd + hs : Nat) : Int) + (b : Int) = ((hd + hs + b : Nat) : Int) ∧ ((hd + hs + b : Nat) : Int) + (b : Int) = ((hd + hs + b + b : Nat) : Int)) := ⟨by omega, by omega, by omega, by omega⟩
  have HBD : Hid ((nd : Int) ≤ 37 ∧ (hd : Int) ≤ 4389 ∧ (hs : Int) ≤ 5) := ⟨by have := hLL.2.2.1; omega, by omega, by omega⟩
  clear h1 h2 h3 h4 hg0 hg1 hW0 hW1 hT0 hT1 hB0 hB1 hB01 hc hc1 hc2 hL hLL hnd hq hhs hsb hhd hds hm0
  go_enter Try.func18, Try.ntmps18
  go_upto_region 1 with (first
    | (refine wpList_runH rfl (exec_allocF rfl (zPl _)) ?_)
    | fail)
  rw [← HW0.out, ← HG0.out]
  clear HW0 HG0
  go_upto_region 4 with (first
    | (refine wpList_runH rfl (exec_allocF rfl (zPl _)) ?_; rw [← HW1.out, ← HG1.out])
    | fail)
  clear HW1 HG1
  have HX1 := HB1
  have HZ1 := HB01
  clear HB1 HB01
  go_upto_region 5 with (first
    | (refine wpList_store1 (g := g1) (i := 0) (v := .int .i64 (n : Int)) rfl iIn rfl rfl rfl rfl HX1.out (show 0 < 10 by decide) ?_; intro w2 hb hbut)
    | fail)
  have HX2 : Hid (Blk w2 g1 42 (pcells ⟨n, 0, 0, [], 0, 0, 0, 0, 0, 0⟩ noS)) := hb
  have HZ2 := Hid.mk' (HZ1.out.but hbut HNE.out.1)
  have HT2 : Hid (Grow w w2) := HT1.out.then hbut (fun j hj e => by have := HNE.out.2.2; omega)
  clear hb hbut HX1 HZ1 HT1
  go_upto_region 6 with (first
    | (refine wpList_store1 (g := g1) (i := 1) (v := .int .i64 (b : Int)) rfl iIn rfl rfl rfl rfl HX2.out (show 1 < 10 by decide) ?_; intro w3 hb hbut)
    | fail)
  have HX3 : Hid (Blk w3 g1 42 (pcells ⟨n, b, 0, [], 0, 0, 0, 0, 0, 0⟩ noS)) := hb
  have HZ3 := Hid.mk' (HZ2.out.but hbut HNE.out.1)
  have HT3 : Hid (Grow w w3) := HT2.out.then hbut (fun j hj e => by have := HNE.out.2.2; omega)
  clear hb hbut HX2 HZ2 HT2
  go_wp2_with fail
  refine Calls.mono (HBG1.out _) ?_
  rintro e w' ⟨rfl, hw⟩
  have h3 := hw.symm
  subst h3
  clear hw HBG1
  go_upto_region 7 with (first
    | (refine wpList_store1 (g := g1) (i := 2) (v := .int .i64 (c : Int)) rfl iIn rfl rfl rfl rfl HX3.out (show 2 < 10 by decide) ?_; intro w4 hb hbut)
    | fail)
  have HX4 : Hid (Blk w4 g1 42 (pcells ⟨n, b, c, [], 0, 0, 0, 0, 0, 0⟩ noS)) := hb
  have HZ4 := Hid.mk' (HZ3.out.but hbut HNE.out.1)
  have HT4 : Hid (Grow w w4) := HT3.out.then hbut (fun j hj e => by have := HNE.out.2.2; omega)
  clear hb hbut HX3 HZ3 HT3
  have c2 : w4.cell? ⟨g1, 2, none⟩ = some (.int .i64 (c : Int)) := HX4.out.cell 2
  go_wp2_with fail
  refine Calls.mono (HBG3.out _) ?_
  rintro e w' ⟨rfl, hw⟩
  have h3 := hw.symm
  subst h3
  clear hw HBG3 c2
  obtain ⟨w5, hw5⟩ : ∃ w5, w5 = w4.alloc (.cells #[.int .i64 (m0 : Int)] 3) := ⟨_, rfl⟩
  have HG5 : Hid (Grow w4 w5) := Hid.mk' (by rw [hw5]; exact (But.refl _ w4).alloc _)
  have HO5 : Hid (Own w w5 (.slice (some ⟨w4.heap.size, 0, none⟩) 1 1) (toI [m0])) := Hid.mk' (by
    rw [hw5]
    exact ⟨(RowOf.lit (Fr := fun _ => True) (n := 1) (Blk.new (L := numv [(m0 : Int)]) rfl) rfl (by decide) trivial).own, fun k hk => by
      have h9 : some w4.heap.size = some k := hk
      have := Option.some.inj h9
      have := HT4.out.size
      omega⟩)
  have HN5 : Hid (∀ k, (Value.slice (some ⟨w4.heap.size, 0, none⟩) 1 1).ownBlock = some k → k ≠ g0 ∧ k ≠ g1) := fun k hk => by
    have h9 : some w4.heap.size = some k := hk
    have := Option.some.inj h9
    have := HX4.out.lt
    have := HZ4.out.lt
    exact ⟨by omega, by omega⟩
  have HX5 := Hid.mk' (HX4.out.but HG5.out (fun h => h))
  have HZ5 := Hid.mk' (HZ4.out.but HG5.out (fun h => h))
  have HT5 := Hid.mk' (HT4.out.trans HG5.out)
  have HW5 := Hid.mk' hw5
  clear hw5
  go_upto_region 9 with (first
    | (refine wpList_runH rfl (exec_row1 (v := .int .i64 (m0 : Int)) Try.underlying34 infNum (by decide) (by decide) rfl rfl rfl) ?_; rw [show w4.alloc (.cells (Value.int .i64 (m0 : Int)).cells 3) = w5 from HW5.out.symm])
    | (refine wpList_store1 (g := g1) (i := 3) (v := .slice (some ⟨w4.heap.size, 0, none⟩) 1 1) rfl iSl rfl rfl rfl rfl HX5.out (show 3 < 10 by decide) ?_; intro w6 hb hbut)
    | fail)
  obtain ⟨r, hr⟩ : ∃ r : Value, r = .slice (some ⟨w4.heap.size, 0, none⟩) 1 1 := ⟨_, rfl⟩
  have HI6 : Hid (OfM w w6 g0 g1 (.slice (some ⟨w4.heap.size, 0, none⟩) 1 1) [m0] ⟨n, b, c, [], 0, 0, 0, 0, 0, 0⟩) :=
    ⟨hb, HZ5.out.but hbut HNE.out.1, HO5.out.but hbut (fun j hj e => (HN5.out j hj).2 e), HT5.out.then hbut (fun j hj e => by have := HNE.out.2.2; omega), HNE.out, HN5.out⟩
  clear hb hbut hr HX4 HZ4 HT4 HX5 HZ5 HT5 HO5 HW5 HG5
  go_wp2_with (first
    | (refine wpList_store1 (g := g1) (i := 4) (v := .int .i64 (m0 : Int)) rfl iIn rfl rfl rfl rfl HI6.out.one (show 4 < 10 by decide) ?_; intro w7 hb hbut)
    | fail)
  have HI7 := Hid.mk' (HI6.out.put (p' := ⟨n, b, c, [], ([m0].sum : Nat), 0, 0, 0, 0, 0⟩) (by rw [show [m0].sum = m0 by simp]; exact hb) hbut)
  clear hb hbut HI6
  refine act_down ?_
  intro K hK
  go_simp
  refine hK _ ?_
  clear hK K
  go_loopw [7] (fun mv wr => ∃ (m k : Nat) (A : List Nat) (r : Value), mv = .int .i64 (m : Int) ∧ k ≤ 3 ∧ 1 ≤ m ∧ m ≤ 8 ^ k ∧ A.length ≤ 3 - k ∧ L = A ++ lvN k m ∧ OfM w wr g0 g1 r (A ++ [m]) ⟨n, b, c, [], ((A ++ [m]).sum : Nat), 0, 0, 0, 0, 0⟩) (fun mv _ => (intOf mv).toNat)
  case atStart => exact ⟨m0, 3, [], _, rfl, by decide, HLE.out.2.1, HLE.out.2.2, by decide, HLE.out.1, HI7.out⟩
  case round =>
    clear HI7 HLE
    obtain ⟨m, k, A, r, rfl, hk, hm1, hm8, hA, hLL2, hI⟩ := hrel
    have HI := Hid.mk' hI
    have HM := Hid.mk' (And.intro hm1 hm8)
    have HL := Hid.mk' hLL2
    have HK := Hid.mk' hk
    have HA := Hid.mk' hA
    have hmu : m ≤ 512 := Nat.le_trans hm8 (show 8 ^ k ≤ 8 ^ 3 from Nat.pow_le_pow_right (by decide) hk)
    have hmi : (m : Int) ≤ 512 := by omega
    obtain ⟨ra, rc, hre⟩ := hI.own.sl
    rw [toI_len, List.length_append, List.length_singleton] at hre
    obtain ⟨rl, hrl⟩ : ∃ rl, rl = A.length + 1 := ⟨_, rfl⟩
    rw [← hrl] at hre
    have HRL := Hid.mk' hrl
    clear hI hm8 hk hA hLL2 hrl
    subst hre
    by_cases hgt : m = 1
    · have hgb : ((m : Int) != 1) = false := by rw [hgt]; rfl
      have hLE : L = A ++ [m] := by rw [HL.out, lvN_one (by omega)]
      have hI := HI.out
      rw [← hLE, ← HND.out] at hI
      have HI := Hid.mk' hI
      have hlt : True := trivial
      have hie : True := trivial
      have hil : True := trivial
      clear hgt hLE hmu
      have d0 : wr.cell? ⟨g1, 0, none⟩ = some (.int .i64 (n : Int)) := hI.one.cell 0
      have d2 : wr.cell? ⟨g1, 2, none⟩ = some (.int .i64 (c : Int)) := hI.one.cell 2
      have d4 : wr.cell? ⟨g1, 4, none⟩ = some (.int .i64 (nd : Int)) := hI.one.cell 4
      obtain ⟨q1, q2, q3, q4⟩ := HSM.out
      obtain ⟨q5, q6, q7⟩ := HBD.out
      obtain ⟨s7, hs7⟩ : ∃ s : Int, s = ((hd + hs : Nat) : Int) := ⟨_, rfl⟩
      obtain ⟨s8, hs8⟩ : ∃ s : Int, s = ((hd + hs + b : Nat) : Int) := ⟨_, rfl⟩
      obtain ⟨s9, hs9⟩ : ∃ s : Int, s = ((hd + hs + b + b : Nat) : Int) := ⟨_, rfl⟩
      rw [← hs7] at q2 q3
      rw [← hs8] at q3 q4
      rw [← hs9] at q4
      have HPE : Hid (plan n b = ⟨n, b, c, toI L, nd, hd, hs, s7, s8, s9⟩) := by rw [hs7, hs8, hs9]; exact HPL.out
      have hQ := HQ.out
      have q8 : s7 ≤ 5000 := by omega
      have q9 : s8 ≤ 5500 := by omega
      clear hI hie hil hs7 hs8 hs9 HSM HBD HPL HQ hlt
      go_upto_region 15 with (first
        | (refine wpList_store1 (g := g1) (i := 5) (v := .int .i64 (hd : Int)) rfl iIn rfl rfl rfl rfl HI.out.one (show 5 < 10 by decide) ?_; intro w6 hb6 hbut6)
        | fail)
      have H6 := Hid.mk' (HI.out.put (p' := ⟨n, b, c, [], nd, hd, 0, 0, 0, 0⟩) hb6 hbut6)
      clear hb6 hbut6 d0 d2 d4 HI
      go_wp2_with fail
      refine Calls.mono (HBG2.out _) ?_
      rintro e w' ⟨rfl, hw⟩
      have h3 := hw.symm
      subst h3
      clear hw HBG2
      go_upto_region 16 with (first
        | (refine wpList_store1 (g := g1) (i := 6) (v := .int .i64 (hs : Int)) rfl iIn rfl rfl rfl rfl H6.out.one (show 6 < 10 by decide) ?_; intro w7 hb7 hbut7)
        | fail)
      have H7 := Hid.mk' (H6.out.put (p' := ⟨n, b, c, [], nd, hd, hs, 0, 0, 0⟩) hb7 hbut7)
      have d5 : w7.cell? ⟨g1, 5, none⟩ = some (.int .i64 (hd : Int)) := H7.out.one.cell 5
      have d6 : w7.cell? ⟨g1, 6, none⟩ = some (.int .i64 (hs : Int)) := H7.out.one.cell 6
      clear hb7 hbut7 H6
      go_upto_region 17 with (first
        | (refine wpList_store1 (g := g1) (i := 7) (v := .int .i64 s7) rfl iIn rfl rfl rfl rfl H7.out.one (show 7 < 10 by decide) ?_; intro w8 hb8 hbut8)
        | fail)
      have H8 := Hid.mk' (H7.out.put (p' := ⟨n, b, c, [], nd, hd, hs, s7, 0, 0⟩) hb8 hbut8)
      have d7 : w8.cell? ⟨g1, 7, none⟩ = some (.int .i64 s7) := H8.out.one.cell 7
      clear hb8 hbut8 H7 d5 d6
      go_upto_region 18 with (first
        | (refine wpList_store1 (g := g1) (i := 8) (v := .int .i64 s8) rfl iIn rfl rfl rfl rfl H8.out.one (show 8 < 10 by decide) ?_; intro w9 hb9 hbut9)
        | fail)
      have H9 := Hid.mk' (H8.out.put (p' := ⟨n, b, c, [], nd, hd, hs, s7, s8, 0⟩) hb9 hbut9)
      have d8 : w9.cell? ⟨g1, 8, none⟩ = some (.int .i64 s8) := H9.out.one.cell 8
      clear hb9 hbut9 H8 d7
      go_upto_region 19 with (first
        | (refine wpList_store1 (g := g1) (i := 9) (v := .int .i64 s9) rfl iIn rfl rfl rfl rfl H9.out.one (show 9 < 10 by decide) ?_; intro w10 hb10 hbut10)
        | fail)
      have H10 := Hid.mk' (H9.out.put (p' := ⟨n, b, c, [], nd, hd, hs, s7, s8, s9⟩) hb10 hbut10)
      have HCW : Hid (∀ j u, (pcells ⟨n, b, c, [], nd, hd, hs, s7, s8, s9⟩ (.slice ra rl rc))[j]? = some u → w10.cell? ((⟨g1, 0, none⟩ : Addr).add j) = some u) := fun j u hj => by
        rw [addr_add, Nat.zero_add, H10.out.one.cell j]; exact hj
      clear hb10 hbut10 H9 d8
      go_wp2_with (first
        | (refine wpList_load_cells rfl _ _ rfl ⟨g1, 0, none⟩ rfl (pcells ⟨n, b, c, [], nd, hd, hs, s7, s8, s9⟩ (.slice ra rl rc)) _ HCW.out Try.underlying42 rfl iPl ?_)
        | (refine wpList_store_at rfl _ _ _ rfl g0 0 (pcells ⟨n, b, c, [], nd, hd, hs, s7, s8, s9⟩ (.slice ra rl rc)) rfl rfl 42 [] (pcells Pn.zero noS) [] (by simpa using H10.out.zero) rfl rfl iPl (pcells_one _ rfl) ?_; intro w11 hb11 hbut11; rw [List.nil_append, List.append_nil] at hb11)
        | fail)
      obtain ⟨ho, hg⟩ := H10.out.last hbut11
      refine bodyPost_ret (results_plan_tmp rfl _ _ g0 _ _ _ _ rfl hb11 Try.underlying42 rfl iPl rfl) rfl ⟨.slice ra rl rc, ?_, ?_, hg⟩
      · rw [HPE.out]; rfl
      · rw [HPE.out]; exact ho
    · have hgb : ((m : Int) != 1) = true := by
        have : (m : Int) ≠ 1 := by omega
        simpa using this
      obtain ⟨k, rfl⟩ : ∃ j, k = j + 1 := by
        cases k with
        | zero => have := HM.out.2; simp at this; omega
        | succ j => exact ⟨j, rfl⟩
      have HB := Hid.mk' (rbegun_any wr m 8 (by omega) (by decide) (by decide))
      obtain ⟨m2, hm2⟩ : ∃ m2, m2 = bg m 8 := ⟨_, rfl⟩
      rw [← hm2] at HB
      have HM2 : Hid (1 ≤ m2 ∧ m2 ≤ 8 ^ k ∧ m2 < m) := Hid.mk' (by rw [hm2]; exact ⟨bg_pos hm1, bg8 HM.out.2, by unfold bg; omega⟩)
      have HL2 : Hid (L = (A ++ [m]) ++ lvN k m2) := Hid.mk' (by rw [HL.out, lvN_more (by omega), List.append_assoc, hm2]; rfl)
      obtain ⟨sm, hsm⟩ : ∃ sm, sm = (A ++ [m]).sum := ⟨_, rfl⟩
      have hs37 : sm + m2 ≤ 37 := by
        have h5 := HLL.out.2.2.1
        have h6 : m2 ≤ (lvN k m2).sum := by
          cases k with
          | zero => show m2 ≤ [m2].sum; simp
          | succ j =>
            unfold lvN
            split
            · simp
            · rw [List.sum_cons]; omega
        rw [HL2.out, List.sum_append, ← hsm] at h5
        omega
      have esm : (sm : Int) + (m2 : Int) = ((sm + m2 : Nat) : Int) := by omega
      have hsu1 : ((sm + m2 : Nat) : Int) ≤ 37 := by omega
      have HSS : Hid (((A ++ [m]) ++ [m2]).sum = sm + m2) := Hid.mk' (by rw [List.sum_append, ← hsm]; simp)
      rw [← hsm] at HI
      obtain ⟨su, hsu2⟩ : ∃ su : Int, su = ((sm + m2 : Nat) : Int) := ⟨_, rfl⟩
      rw [← hsu2] at esm hsu1
      have HSU := Hid.mk' hsu2
      have c3 : wr.cell? ⟨g1, 3, none⟩ = some (.slice ra rl rc) := HI.out.one.cell 3
      have HAL : Hid (Grow wr (wr.alloc (.cells #[.int .i64 (m2 : Int)] 3))) := (But.refl _ wr).alloc _
      have HBL : Hid (Blk (wr.alloc (.cells #[.int .i64 (m2 : Int)] 3)) wr.heap.size 3 (numv [(m2 : Int)])) := Blk.new (L := numv [(m2 : Int)]) rfl
      have HRW : Hid (wr.ownsRow 0 3 1 (.slice ra rl rc) rl (numv (toI (A ++ [m])))) := Hid.mk' (by
        have h := HI.out.own.row
        rw [toI_len, List.length_append, List.length_singleton, ← HRL.out] at h
        exact h)
      have hm2i : (m2 : Int) ≤ 512 := by have := HM2.out.2.2; omega
      clear hm2 hm1 hmu HM HL hsm hs37 hsu2 hgt
      go_wp2_with fail
      refine Calls.mono HB.out ?_
      rintro e w' ⟨rfl, hw⟩
      have h3 := hw.symm
      subst h3
      clear hw HB
      go_upto_region 13 with (first
        | (refine wpList_runH rfl (exec_row1 (v := .int .i64 (m2 : Int)) Try.underlying34 infNum (by decide) (by decide) rfl rfl rfl) ?_)
        | (refine wpList_someH rfl (exec_append (v := .slice ra rl rc) (n := rl) (xs := numv (toI (A ++ [m]))) (news := numv [(m2 : Int)]) Try.underlying34 infNum rfl (by decide) rfl rfl (ownsRow_grow HRW.out HAL.out) rfl rfl (fun j u hj => HBL.out.cells0 j u hj) (fun u hu => by rw [show u = .int .i64 (m2 : Int) by simpa [numv] using hu]; rfl) (by have := HRL.out; have := HA.out; omega) (by decide)) ?_; intro v4 w4 hap
           obtain ⟨va, vc, e4⟩ := own_sl hap.own
           subst e4
           have hb4 : Blk w4 g1 42 (pcells ⟨n, b, c, [], sm, 0, 0, 0, 0, 0⟩ (.slice ra rl rc)) := (HI.out.one.but HAL.out (fun h => h)).but hap.but (fun e => (HI.out.nv g1 e).2 rfl))
        | (refine wpList_store1 (g := g1) (i := 3) rfl iSl rfl rfl rfl rfl hb4 (show 3 < 10 by decide) ?_; intro w5 hb5 hbut5)
        | fail)
      have HI5 := Hid.mk' (HI.out.app HRL.out HAL.out hap hb5 hbut5)
      have c4 : w5.cell? ⟨g1, 4, none⟩ = some (.int .i64 (sm : Int)) := HI5.out.one.cell 4
      clear hap hb4 hb5 hbut5 c3 HAL HBL HRW HI
      go_wp2_with (first
        | (refine wpList_store1 (g := g1) (i := 4) (v := .int .i64 su) rfl iIn rfl rfl rfl rfl HI5.out.one (show 4 < 10 by decide) ?_; intro w6 hb6 hbut6)
        | fail)
      refine ⟨⟨.int .i64 (m2 : Int), _, _, _, _, _, _, _, _, _, _, _, _, _, _, _, ⟨m2, k, A ++ [m], _, rfl, by have := HK.out; omega, HM2.out.1, HM2.out.2.1, by rw [List.length_append, List.length_singleton]; have := HA.out; have := HK.out; omega, HL2.out, HI5.out.put (p' := ⟨n, b, c, [], (((A ++ [m]) ++ [m2]).sum : Nat), 0, 0, 0, 0, 0⟩) (by rw [HSS.out, ← HSU.out]; exact hb6) hbut6⟩, rfl⟩, ?_⟩
      show (m2 : Int).toNat < (m : Int).toNat
      have := HM2.out.2.2
      omega
end Go.Proofs.Ytidblaepklgkcaa
