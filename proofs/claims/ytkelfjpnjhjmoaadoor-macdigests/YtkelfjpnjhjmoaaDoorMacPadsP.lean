/- MacPads: the walk. -/
import Derived.Test.YtkelfjpnjhjmoaaDoorMacGreat
import Derived.Test.YtkelfjpnjhjmoaaDoorShaEq
namespace Go.Proofs.YtkelfjpnjhjmoaaDoor
open Go.RowKit

theorem keyBlock_pad (key : List Nat) (m : Nat) (h : m = 0 ∨ key.length + m ≤ 64) : keyBlock (key ++ List.replicate m 0) = keyBlock key := by
  rcases h with rfl | h
  · simp
  · have e1 : keyOf (key ++ List.replicate m 0) = key ++ List.replicate m 0 := by unfold keyOf; rw [if_neg (by simp; omega)]
    have e2 : keyOf key = key := by unfold keyOf; rw [if_neg (by omega)]
    unfold keyBlock
    rw [e1, e2, List.append_assoc, List.replicate_append_replicate]
    congr 2
    simp; omega
theorem keyBlock_digest (key : List Nat) (h : 64 < key.length) : keyBlock (digest key) = keyBlock key := by
  have e1 : keyOf (digest key) = digest key := by unfold keyOf; rw [if_neg (by rw [digest_len']; omega)]
  have e2 : keyOf key = digest key := by unfold keyOf; rw [if_pos h]
  unfold keyBlock
  rw [e1, e2]
theorem hmac_of {k1 k2 : List Nat} (h : keyBlock k1 = keyBlock k2) (t : List Nat) : hmac k1 t = hmac k2 t := by unfold hmac; rw [h]

set_option maxRecDepth 100000 in
set_option maxHeartbeats 4000000 in
theorem macPads_walk (v0 : Value) (z0 : List Nat) (v1 : Value) (z1 : List Nat) (a2 : Int) (w : World) (hk : Kw w) (hh : Hw w) (h0 : Bs w v0 z0 ∧ z0.length ≤ 140737488351232) (h1 : Bs w v1 z1 ∧ z1.length ≤ 140737488351232) (h2 : (Lit.int .i64 a2).wf = true) :
    Calls Tryd.prog 4 #[v0, v1, .int .i64 a2] w fun e w' => e = .returned (.bool true) ∧ Below w.heap.size w w' := by
  obtain ⟨i0, hi, hz0, hz1, hz2⟩ := info_parts u8info
  have HAW : Hid (∀ w2, But (fun _ => False) w w2 → Calls Tryd.prog 9 #[] w2 fun e w' => e = .returned (.bool true) ∧ But (fun _ => False) w2 w') := fun w2 q => awake_any (hk.but q (fun h => h)) (hh.but q (fun h => h))
  have HMO : Hid (∀ (w2 : World) (v : Value) (key : List Nat), But (fun _ => False) w w2 → Bs w2 v key → key.length ≤ 20064 → z1.length ≤ 20000 → Calls Tryd.prog 11 #[v, .slice (some ⟨w2.heap.size, 0, none⟩) 1 1] (w2.alloc (.cells #[v1] 22)) fun e w' => e = .returned (.agg (u8s (hmac key z1)).toArray) ∧ But (fun _ => False) w2 w') := by
    intro w2 v key q hb hl hl1
    have b2 : But (fun _ => False) w2 (w2.alloc (.cells #[v1] 22)) := (But.refl _ w2).alloc _
    have hp := Ps.one' (h1.1.but q (fun _ _ _ h => h)) rfl
    have q2 := q.trans b2
    have h := mof_any (hb.but b2 (fun _ _ _ h => h)) hp (hk.but q2 (fun h => h)) (hh.but q2 (fun h => h)) (by omega) (by simp; omega) (by simp)
    refine h.mono ?_
    rintro e w' ⟨rfl, hb'⟩
    exact ⟨by simp, b2.trans hb'⟩
  have b1 : But (fun _ => False) w (w.alloc (.cells #[v1] 22)) := (But.refl _ w).alloc _
  have HGR := Hid.mk' (great_any (h0.1.but b1 (fun _ _ _ h => h)) (Ps.one' (h1.1.but (But.refl (fun _ => False) w) (fun _ _ _ h => h)) rfl) (by simp))
  have HCO := Hid.mk' (copy_any (h0.1.but b1 (fun _ _ _ h => h)) (by omega))
  have HV0 := Hid.mk' h0.1
  have HB1 := Hid.mk' b1
  have HOF : Hid (∀ (w2 : World), But (fun _ => False) w w2 → z0.length ≤ 20000 → Calls Tryd.prog 17 #[.slice (some ⟨w2.heap.size, 0, none⟩) 1 1] (w2.alloc (.cells #[v0] 22)) fun e w' => e = .returned (.agg (u8s (digest z0)).toArray) ∧ But (fun _ => False) w2 w') := by
    intro w2 q hl
    have b2 : But (fun _ => False) w2 (w2.alloc (.cells #[v0] 22)) := (But.refl _ w2).alloc _
    have hp := Ps.one' (h0.1.but q (fun _ _ _ h => h)) rfl
    have q2 := q.trans b2
    have h := of_any hp (hk.but q2 (fun h => h)) (hh.but q2 (fun h => h)) (by simp; omega) (by simp)
    refine h.mono ?_
    rintro e w' ⟨rfl, hb'⟩
    exact ⟨by simp, b2.trans hb'⟩
  obtain ⟨a0, c0, rfl, -, -⟩ := h0.1.gen
  obtain ⟨a1, c1, rfl, -, -⟩ := h1.1.gen
  clear hk hh b1 h0 h1
  go_enter Tryd.func4, Tryd.ntmps4
  go_wp2_with fail
  refine Calls.mono HGR.out ?_
  rintro e w2 ⟨b, rfl, rfl, hsm⟩
  cases b with
  | true =>
    go_wp2_with fail
    refine Calls.mono (HAW.out _ HB1.out) ?_
    rintro e w4 ⟨rfl, hb4⟩
    go_wp2
    go_ret
    exact ⟨rfl, (HB1.out.trans hb4).below (Nat.le_refl _) (fun _ _ h => h)⟩
  | false =>
    obtain ⟨hl0, hl1'⟩ := hsm rfl
    have hl1 : z1.length ≤ 20000 := by simp at hl1'; omega
    clear hsm hl1' HGR
    obtain ⟨W0, hW0⟩ : ∃ W0, W0 = w.alloc (.cells #[.slice a1 z1.length c1] 22) := ⟨_, rfl⟩
    rw [← hW0] at HCO HB1 ⊢
    clear hW0
    go_wp2_with fail
    refine Calls.mono HCO.out ?_
    rintro e w2 ⟨vl, rfl, hown, hb2⟩
    go_wp2_with fail
    refine Calls.mono (pick_any a2 65 h2 (by decide) (by decide) _) ?_
    rintro e w3 ⟨n, rfl, hn65, rfl⟩
    have HO2 := Hid.mk' hown
    have HB2 := Hid.mk' hb2
    clear hown hb2 HCO h2
    obtain ⟨kl, hkl⟩ : ∃ kl, kl = z0.length := ⟨_, rfl⟩
    have HKL := Hid.mk' hkl
    rw [← hkl] at hl0
    clear hkl
    go_wp2
    go_loopw [7, 9] (fun s i wr => ∃ k : Nat, k ≤ n ∧ i = .int .i64 k ∧ Ow wr W0.heap.size s (z0 ++ List.replicate k 0) ∧ (k = 0 ∨ kl + k ≤ 64) ∧ Below W0.heap.size W0 wr) (fun _ i _ => n - (intOf i).toNat)
    case atStart => exact ⟨0, Nat.zero_le _, rfl, by simpa using HO2.out, .inl rfl, HB2.out⟩
    case round =>
      obtain ⟨k, hkn, rfl, ho, h64, hbel⟩ := hrel
      have hsz := hbel.size
      have hlen : (z0 ++ List.replicate k 0).length = kl + k := by rw [List.length_append, List.length_replicate, HKL.out]
      have HR : Hid (wr.ownsRow W0.heap.size 5 1 u7 (kl + k) (u8s (z0 ++ List.replicate k 0))) := by have := ho.own; rw [hlen] at this; exact this
      have HO := Hid.mk' ho
      have HBE := Hid.mk' hbel
      obtain ⟨al, cl, rfl, -, -⟩ := ho.bs.gen
      rw [hlen] at HO HR ⊢
      have HLEN := Hid.mk' hlen
      clear ho hbel hlen
      by_cases hgo : k < n ∧ kl + k < 64
      · have hg1 : (k : Int) < (n : Int) := by omega
        have hg2 : ((kl + k : Nat) : Int) < 64 := by omega
        obtain ⟨q, hq⟩ : ∃ q, q = kl + k := ⟨_, rfl⟩
        rw [← hq] at HO HR hg2 HLEN ⊢
        have hq64 : q < 64 := by omega
        have HQ := Hid.mk' hq
        clear hq
        go_wp2_with (at_builtin; refine wpList_append_own _ rfl _ _ 22 rfl W0.heap.size 5 i0 (.int .u8 0) 1 1 Tryd.underlying22 hi hz0 hz1 hz2 rfl (by decide) _ q _ rfl (HR.out.alloc _) ⟨wr.heap.size, 0, none⟩ 1 1 [.int .u8 ((0 : Nat) : Int)] rfl rfl (cell_new _ _ _) (by intro u hu; simp at hu; subst hu; rfl) (by unfold maxLen; omega) (by omega) (by simp; omega) ?_; intro v' w5 hown' hgrow' hnil')
        go_roundw
        case rel =>
          refine ⟨k + 1, by omega, by go_num, ?_, .inr (by have := HQ.out; omega), (HBE.out.alloc hsz _).grown hgrow' (by simp; omega) (fun j hj => (HO.out.ge j hj).1)⟩
          have hp := HO.out.push (y := 0) (by decide) (by rw [HLEN.out]; omega) (by rw [HLEN.out]; exact hown')
          rw [List.append_assoc, ← List.replicate_succ'] at hp
          exact hp
        case measure => simp [intOf]; omega
      · have hl64 : (z0 ++ List.replicate k 0).length ≤ 20064 := by rw [HLEN.out]; omega
        have q : But (fun _ => False) w wr := HB1.out.trans (But.of HBE.out)
        have H1 := HMO.out wr _ _ q HO.out.bs hl64 hl1
        rw [hmac_of (keyBlock_pad z0 k (by rw [← HKL.out]; exact h64)) z1] at H1
        have HDL := Hid.mk' (hmac_len z0 z1)
        have HDG : Hid (64 < z0.length → hmac (digest z0) z1 = hmac z0 z1) := fun h => hmac_of (keyBlock_digest z0 h) z1
        have HCALL : Hid (∀ w2, But (fun _ => False) w w2 → Calls Tryd.prog 11 #[.slice a0 z0.length c0, .slice (some ⟨w2.heap.size, 0, none⟩) 1 1] (w2.alloc (.cells #[.slice a1 z1.length c1] 22)) fun e w' => e = .returned (.agg (u8s (hmac z0 z1)).toArray) ∧ But (fun _ => False) w2 w') :=
          fun w2 q2 => HMO.out w2 _ z0 q2 (HV0.out.but q2 (fun _ _ _ h => h)) (by rw [← HKL.out]; omega) hl1
        generalize hmac z0 z1 = D at *
        obtain ⟨C, hC⟩ : ∃ C, C = (u8s D).toArray := ⟨_, rfl⟩
        rw [← hC] at H1 HCALL
        have HCC := Hid.mk' hC
        have HEQ : Hid (∀ w, (Op.equalIn 10000 27 (.agg C) (.agg C)).run Tryd.prog w = .ok true w) := by intro w; rw [hC]; exact equal_same D HDL.out w
        clear hC
        have H1' := Hid.mk' H1
        have HQ := Hid.mk' q
        have hbw : (k < n ∧ 64 ≤ kl + k) ∨ ¬ k < n := by omega
        have hz2 : ∀ w : World, (zeroValue 27).run Tryd.prog w = .ok (.agg (u8s (List.replicate 32 0)).toArray) w := fun _ => by kernel_rfl
        obtain ⟨O, hO⟩ : ∃ O, O = (u8s (List.replicate 32 0)).toArray := ⟨_, rfl⟩
        rw [← hO] at hz2
        have HO' := Hid.mk' hO
        clear H1 q hl64 hO hgo h64 HR HO HBE HO2 HB2 hkn
        rcases hbw with ⟨hA, hB⟩ | hA
        case' inl =>
          have hg1 : (k : Int) < (n : Int) := by omega
          have hg2 : ¬ (((kl + k : Nat) : Int) < 64) := by omega
        case' inr =>
          have hg1 : ¬ ((k : Int) < (n : Int)) := by omega
        all_goals
          go_wp2_with fail
          refine Calls.mono H1'.out ?_
          rintro e w6 ⟨rfl, hb6⟩
          have q6 : But (fun _ => False) w w6 := HQ.out.trans hb6
          have HC6 := Hid.mk' (HCALL.out w6 q6)
          have HQ6 := Hid.mk' q6
          clear hb6 q6 H1'
          go_wp2_with fail
          refine Calls.mono HC6.out ?_
          rintro e w7 ⟨rfl, hb7⟩
          have hneq := HEQ.out w7
          have q7 : But (fun _ => False) w w7 := HQ6.out.trans hb7
          have HQ7 := Hid.mk' q7
          clear hb7 q7 HC6
          by_cases hk64 : z0.length ≤ 64
          · have hk64i : (z0.length : Int) ≤ 64 := by omega
            go_wp2_with fail
            refine Calls.mono (HAW.out _ HQ7.out) ?_
            rintro e w8 ⟨rfl, hb8⟩
            go_wp2
            go_ret
            exact ⟨rfl, (HQ7.out.trans hb8).below (Nat.le_refl _) (fun _ _ h => h)⟩
          · have hk64i : ¬ (z0.length : Int) ≤ 64 := by omega
            have HF7 := Hid.mk' (HOF.out w7 HQ7.out (by rw [← HKL.out]; omega))
            have HGL := Hid.mk' (digest_len' z0)
            have HGB := Hid.mk' (digest_lt z0)
            have HDG' := Hid.mk' (HDG.out (by omega))
            generalize digest z0 = E at *
            go_wp2_with fail
            refine Calls.mono HF7.out ?_
            rintro e w8 ⟨rfl, hb8⟩
            have q8 : But (fun _ => False) w w8 := HQ7.out.trans hb8
            have HQ8 := Hid.mk' q8
            clear hb8 q8 hneq HF7
            go_wp2_with (refine wpList_store_u8s i32s rfl _ _ rfl w8.heap.size E HGL.out rfl (by exact rfl) (u8s (List.replicate 32 0)) rfl (by rw [HO'.out]; exact Blk.new rfl) ?_; intro w9 hb9 hbut9)
            have q9 : But (fun _ => False) w w9 := (HQ8.out.alloc _).then hbut9 (fun i hi e => by have := HQ8.out.size; omega)
            have hbE : Bs w9 (.slice (some ⟨w8.heap.size, 0, none⟩) 32 32) E := by
              have h := Blk.bs (Y := []) (cap := 32) (by simpa using hb9) HGB.out (by rw [HGL.out]; decide) (by rw [HGL.out]; decide) (by rw [HGL.out]; decide)
              rw [HGL.out] at h; exact h
            have HC9 := HMO.out w9 _ E q9 hbE (by rw [HGL.out]; decide) hl1
            rw [HDG'.out, ← HCC.out] at HC9
            have HQ9 := Hid.mk' q9
            refine Calls.mono HC9 ?_
            rintro e wA ⟨rfl, hbA⟩
            have qA : But (fun _ => False) w wA := HQ9.out.trans hbA
            have HCA := Hid.mk' (HCALL.out wA qA)
            have HQA := Hid.mk' qA
            clear hbA qA HC9 hbE hb9 hbut9 q9
            go_wp2_with fail
            refine Calls.mono HCA.out ?_
            rintro e wB ⟨rfl, hbB⟩
            have heql := HEQ.out wB
            have qB : But (fun _ => False) w wB := HQA.out.trans hbB
            have HQB := Hid.mk' qB
            clear hbB qB HCA
            go_wp2_with fail
            refine Calls.mono (HAW.out _ HQB.out) ?_
            rintro e wC ⟨rfl, hbC⟩
            go_wp2
            go_ret
            exact ⟨rfl, (HQB.out.trans hbC).below (Nat.le_refl _) (fun _ _ h => h)⟩
end Go.Proofs.YtkelfjpnjhjmoaaDoor
