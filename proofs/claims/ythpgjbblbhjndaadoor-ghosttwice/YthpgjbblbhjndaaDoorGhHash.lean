/- ghost: Hash. -/
import Derived.Test.YthpgjbblbhjndaaDoorGhJoin
import Derived.Test.YthpgjbblbhjndaaDoorShaEq
namespace Go.Proofs.YthpgjbblbhjndaaDoor
open Go.RowKit

theorem digest_wf (xs : List Nat) : wf32 (digest xs) := by
  refine ⟨by simp [digest, outb], fun z hz => ?_⟩
  simp only [digest, outb, List.mem_map, List.mem_range] at hz
  obtain ⟨i, _, rfl⟩ := hz
  exact Nat.mod_lt _ (by decide)
theorem LgTo.grow {w W W' : World} {own : Owner} {gl : Nat} {P : List Pr} {S O : List Tup} (h : LgTo w own gl P S O W) (k : Grow W W') : LgTo w own gl P S O W' := by
  obtain ⟨own', h1, h2, h3⟩ := h.ex
  exact ⟨h.but.trans (k.mono (fun _ _ h => h.elim)), own', h1, h2, h3.but k (fun _ _ h => h)⟩
/-- Only blocks that aren't the log's, or are new, turned on the way to it. -/
theorem LgTo.from {w W W' : World} {own : Owner} {gl : Nat} {P : List Pr} {S O : List Tup} {R : Nat → Prop} (k : But R w W) (hr : ∀ b, b < w.heap.size → R b → own b ≠ .none) (h : LgTo W own gl P S O W') : LgTo w own gl P S O W' := by
  obtain ⟨own', h1, h2, h3⟩ := h.ex
  exact ⟨(k.mono (fun b hb e => hr b hb e)).trans h.but, own', h1, fun b hb => Nat.le_trans k.size (h2 b hb), h3⟩
def z32 : List Nat := List.replicate 32 0
theorem z32v (w : World) : (zeroValue 35).run Tryd.prog w = .ok (.agg (u8s z32).toArray) w := by kernel_rfl
set_option maxRecDepth 100000 in
set_option maxHeartbeats 8000000 in
theorem hash_nil {w : World} {v : Value} {xss : List (List Nat)} (hv : Ps w v xss) (hk : Kw w) (hh : Hw w) (hlen : xss.flatten.length ≤ 1000000) (hxl : xss.length ≤ 1000) :
    Calls Tryd.prog 23 #[.pointer none, v] w fun e w' => e = .returned (dkey (digest xss.flatten)) ∧ Grow w w' := by
  obtain ⟨Z, hZ⟩ : ∃ Z, Z = u8s z32 := ⟨_, rfl⟩
  have hz := z32v
  rw [← hZ] at hz
  have HZL : Hid (Z.length = 32) := by show _ = _; rw [hZ]; rfl
  obtain ⟨g0, hg0⟩ : ∃ g, g = w.heap.size := ⟨_, rfl⟩
  obtain ⟨W0, hW0⟩ : ∃ W0, W0 = w.alloc (.cells Z.toArray 35) := ⟨_, rfl⟩
  have hT0 : Grow w W0 := by rw [hW0]; exact (But.refl _ w).alloc _
  have HR0 : Hid (Blk W0 g0 35 Z) := by show Blk _ _ _ _; rw [hW0]; exact Blk.new hg0.symm
  have HOF := Hid.mk' (of_any (hv.below hT0) (hk.but hT0 (fun h => h)) (hh.but hT0 (fun h => h)) (by omega) (by omega))
  obtain ⟨D, hD⟩ : ∃ D, D = digest xss.flatten := ⟨_, rfl⟩
  have HDW : Hid (wf32 D) := by show wf32 _; rw [hD]; exact digest_wf _
  rw [← hD] at HOF ⊢
  have HT0 := Hid.mk' hT0
  have HG0 := Hid.mk' hg0
  have HW0 := Hid.mk' hW0
  have HDL : Hid (D.length = 32) := HDW.out.1
  clear hv hk hh hlen hxl hZ hg0 hW0 hT0 hD
  go_enter Tryd.func23, Tryd.ntmps23
  go_wp2_with fail
  rw [← HW0.out, ← HG0.out]
  refine Calls.mono HOF.out ?_
  rintro e W1 ⟨rfl, hg1⟩
  have HG1 := Hid.mk' (HT0.out.trans hg1)
  have HR1 := Hid.mk' (HR0.out.but hg1 (fun h => h))
  have HBZ : Hid (Blk (W1.alloc (.cells Z.toArray 35)) W1.heap.size 35 Z) := Blk.new rfl
  clear hg1
  go_wp2_with (first
    | (refine wpList_store_u8s i32 rfl _ _ rfl W1.heap.size D HDL.out rfl rfl Z HZL.out HBZ.out ?_; intro W2 hb2 hbut2; have HB2 := Hid.mk' hb2; have HR2 := Hid.mk' ((HR1.out.but (R := fun _ => False) ((But.refl _ W1).alloc _) (fun h => h)).but hbut2 (show ¬ (g0 = W1.heap.size) by have := HR1.out.lt; omega)))
    | (refine wpList_load_u8s ukt i32 rfl _ rfl W1.heap.size D HDL.out rfl HB2.out ?_)
    | (refine wpList_store_u8s i32 rfl _ _ rfl g0 D HDL.out rfl rfl Z HZL.out HR2.out ?_; intro W9 hb9 hbut9)
    | fail)
  refine bodyPost_ret (results_cell_row rfl _ _ g0 _ _ _ _ rfl hb9 ukt rfl (by rw [i32]; simp [HDL.out])) rfl ⟨rfl, ?_⟩
  exact ((HG1.out.trans ((But.refl _ W1).alloc _)).then hbut2 (fun i hi e => by have := HG1.out.size; omega)).then hbut9 (fun i hi e => by have := HG0.out; omega)
set_option maxRecDepth 100000 in
set_option maxHeartbeats 8000000 in
theorem hash_any {w : World} {own : Owner} {gl : Nat} {P : List Pr} {S O : List Tup} {v : Value} {xss : List (List Nat)} (h : Lg w own gl P S O) (hv : Ps w v xss) (hk : Kw w) (hh : Hw w) (hlen : xss.flatten.length ≤ 1000000) (hx1 : 1 ≤ xss.length) (hxl : xss.length ≤ 1000) (hcap : ∀ ao n c, v = .slice ao n c → n ≤ c) (hn : P.length < 1000000) :
    Calls Tryd.prog 23 #[.pointer (some ⟨gl, 0, none⟩), v] w fun e w' => e = .returned (dkey (digest xss.flatten)) ∧ LgTo w own gl (P ++ [(xss.flatten, digest xss.flatten)]) S O w' := by
  obtain ⟨Z, hZ⟩ : ∃ Z, Z = u8s z32 := ⟨_, rfl⟩
  have hz := z32v
  rw [← hZ] at hz
  have HZL : Hid (Z.length = 32) := by show _ = _; rw [hZ]; rfl
  obtain ⟨g0, hg0⟩ : ∃ g, g = w.heap.size := ⟨_, rfl⟩
  obtain ⟨W0, hW0⟩ : ∃ W0, W0 = w.alloc (.cells Z.toArray 35) := ⟨_, rfl⟩
  have hT0 : Grow w W0 := by rw [hW0]; exact (But.refl _ w).alloc _
  have HR0 : Hid (Blk W0 g0 35 Z) := by show Blk _ _ _ _; rw [hW0]; exact Blk.new hg0.symm
  have HOF := Hid.mk' (of_any (hv.below hT0) (hk.but hT0 (fun h => h)) (hh.but hT0 (fun h => h)) (by omega) (by omega))
  have HJ := Hid.mk' (fun w' (hw : Grow w w') => join_any (hv.below hw) hx1 hxl hlen hcap)
  obtain ⟨D, hD⟩ : ∃ D, D = digest xss.flatten := ⟨_, rfl⟩
  have HDW : Hid (wf32 D) := by show wf32 _; rw [hD]; exact digest_wf _
  rw [← hD] at HOF ⊢
  obtain ⟨xs, hxs⟩ : ∃ xs, xs = xss.flatten := ⟨_, rfl⟩
  rw [← hxs] at HJ hlen ⊢
  have HT0 := Hid.mk' hT0
  have HG0 := Hid.mk' hg0
  have HW0 := Hid.mk' hW0
  have HH := Hid.mk' h
  have HN := Hid.mk' hn
  have HLE := Hid.mk' hlen
  have HDL : Hid (D.length = 32) := HDW.out.1
  obtain ⟨N, hN⟩ : ∃ N, N = (u8s D).toArray := ⟨_, rfl⟩
  have HNE := Hid.mk' hN
  have HTOP : Hid (Top w own) := by obtain ⟨_, _, _, _, _, _, h⟩ := h; exact h.top
  clear h hv hk hh hlen hx1 hxl hcap hZ hg0 hW0 hT0 hD hxs hN hn
  go_enter Tryd.func23, Tryd.ntmps23
  go_wp2_with fail
  rw [← HW0.out, ← HG0.out]
  refine Calls.mono HOF.out ?_
  rintro e W1 ⟨rfl, hg1⟩
  have HG1 := Hid.mk' (HT0.out.trans hg1)
  have HR1 := Hid.mk' (HR0.out.but hg1 (fun h => h))
  have HBZ : Hid (Blk (W1.alloc (.cells Z.toArray 35)) W1.heap.size 35 Z) := Blk.new rfl
  clear hg1
  go_upto_region 3 with (first
    | (refine wpList_store_u8s i32 rfl _ _ rfl W1.heap.size D HDL.out rfl rfl Z HZL.out HBZ.out ?_; intro W2 hb2 hbut2)
    | fail)
  obtain ⟨g2, hg2⟩ : ∃ g, g = W1.heap.size := ⟨_, rfl⟩
  rw [← hg2] at hb2 hbut2 ⊢
  have hG2 : Grow W1 W2 := ((But.refl _ W1).alloc _).then hbut2 (fun i hi e => by omega)
  have HB2 := Hid.mk' hb2
  have HR2 := Hid.mk' (HR1.out.but hG2 (fun h => h))
  have HGW := Hid.mk' (HG1.out.trans hG2)
  have HG2N : Hid (own g2 = .none) := HTOP.out g2 (by have := HG1.out.size; omega)
  have HG0N : Hid (own g0 = .none) := HTOP.out g0 (by have := HG0.out; omega)
  clear hb2 hbut2 hG2 hg2 HBZ HR1 HG1 HR0 HOF HW0
  rw [← HNE.out]
  refine region_chain [([0, 1, 3], 2), ([], 4)] [] (Grow W2) (Grow W2) (by kernel_rfl) (by kernel_rfl) (fun _ _ h k => h.trans k) (fun _ h => h) ((But.refl _ W2).drew) ?_
  intro ι hne X hX
  iterate 2 (refine still_step rfl (fun K hK => ?_); go_simp; refine hK _ ?_; clear hK K)
  refine still_val rfl (.agg N) rfl (fun x => by rw [HNE.out]; exact run_load_arr ukt i32 (HB2.out.but (hX x) (fun h => h)).cells0 HDL.out rfl rfl) ?_
  intro K hK; go_simp; refine hK _ ?_; clear hK K
  refine still_nil ?_
  clear hX hne
  refine turn_call rfl rfl (fun u w' => Grow W2 w' ∧ Bs w' u xs ∧ (0 < xs.length → ∀ k, u.ownBlock = some k → W2.heap.size ≤ k)) (fun _ => Grow W2) (fun u w1 w2 h k => ⟨h.1.trans k, h.2.1.but k (fun _ _ _ h => h), h.2.2⟩) (fun u w1 h => h.1) (.inr (fun _ _ h => h)) 35 #[v, .slice none 0 0] (fun _ => by kernel_rfl) ?_ ?_
  · intro w1 hw1
    refine Calls.mono (HJ.out w1 (HGW.out.trans hw1)) ?_
    rintro e w2 ⟨v', rfl, h1, h2, h3⟩
    exact ⟨v', rfl, hw1.trans h3, h1, fun h0 k hk => Nat.le_trans hw1.size (h2 h0 k hk)⟩
  · rintro u ⟨wq, -, hub, -⟩ Y hY
    clear hub wq
    go_simp
    refine hY _ ?_
    clear hY Y
    intro ι hne X hX
    refine still_nil ?_
    clear hX hne
    refine turn_call rfl rfl (fun _ w' => LgTo W2 own gl (P ++ [(xs, D)]) S O w') (fun _ _ => True) (fun _ w1 w2 h k => h.grow k) (fun _ _ _ => trivial) (.inl (by kernel_rfl)) 25 #[.pointer (some ⟨gl, 0, none⟩), u, .agg N] (fun _ => by kernel_rfl) ?_ ?_
    · rintro w1 ⟨h1, h2, h3⟩
      have hlg := HH.out.but (HGW.out.trans h1) (fun _ _ h => h)
      have hnt := note_any hlg (v := u) ⟨h2, fun h0 k hk => HTOP.out k (Nat.le_trans HGW.out.size (h3 h0 k hk))⟩ (by have := HLE.out; omega) HDW.out HN.out
      rw [show dkey D = .agg N by rw [HNE.out]; rfl] at hnt
      refine hnt.mono ?_
      rintro e w2 ⟨rfl, h4⟩
      exact ⟨_, rfl, h4.from h1 (fun _ _ h => h.elim)⟩
    · rintro q - Y hY
      go_simp
      refine hY _ ?_
      clear hY Y
      intro ι hne X hX
      refine still_nil ?_
      clear hX hne
      intro W6 hW6
      have HB6 := Hid.mk' (HB2.out.but hW6.but (fun e => e HG2N.out))
      have HR6 := Hid.mk' (HR2.out.but hW6.but (fun e => e HG0N.out))
      have HW6 := Hid.mk' hW6
      clear hW6
      go_wp2_with (first
        | (refine wpList_load_u8s ukt i32 rfl _ rfl g2 D HDL.out rfl HB6.out ?_)
        | (refine wpList_store_u8s i32 rfl _ _ rfl g0 D HDL.out rfl rfl Z HZL.out HR6.out ?_; intro W9 hb9 hbut9)
        | fail)
      refine bodyPost_ret (results_cell_row rfl _ _ g0 _ _ _ _ rfl hb9 ukt rfl (by rw [i32]; simp [HDL.out])) rfl ⟨rfl, ?_⟩
      have h6 := HW6.out
      obtain ⟨own', q1, q2, q3⟩ := h6.ex
      have hg0n' : own' g0 = .none := by
        by_cases hq : own' g0 = own g0
        · rw [hq]; exact HG0N.out
        · exact absurd (q2 g0 hq) (by have := HR2.out.lt; omega)
      refine ⟨But.then (But.then (HGW.out.mono (fun _ _ h => h.elim)) h6.but (fun _ _ h => h)) hbut9 (fun i hi e => by have := HG0.out; omega), own', q1, fun b hb => Nat.le_trans HGW.out.size (q2 b hb), q3.but hbut9 (fun b hb e => hb (by rw [e]; exact hg0n'))⟩
end Go.Proofs.YthpgjbblbhjndaaDoor
