/- ghash: Sum under a key. -/
import Derived.Test.YtpdkdeebdhdhgaaGhashEach
namespace Go.Proofs.Ytpdkdeebdhdhgaa
open Go.RowKit

theorem Bs.step {w w' : World} {v : Value} {zs : List Nat} {gy : Nat} (h : Bs w v zs) (k : But (· = gy) w w') (ho : 0 < zs.length → ∀ j, v.ownBlock = some j → j ≠ gy) : Bs w' v zs := by
  by_cases h0 : 0 < zs.length
  · exact h.but k (fun j hj _ => ho h0 j hj)
  · obtain ⟨h1, h2, h3 | h3⟩ := h
    · exact ⟨h1, h2, .inl h3⟩
    · exact absurd h3.1 h0
set_option maxRecDepth 100000 in
theorem bitsOf_any {w : World} {ao : Option Addr} {n c : Nat} (hn : n ≤ 10000) :
    Calls Try.prog 30 #[.slice ao n c] w fun e w' => e = .returned (.int .u64 ((8 * n : Nat) : Int)) ∧ w' = w := by
  have h1 : ((8 * n : Nat) : Int) = (n : Int) * 8 := by omega
  rw [h1]
  go_enter Try.func30, Try.ntmps30
  go_wp2
  go_ret
  exact ⟨rfl, rfl⟩
set_option maxRecDepth 100000 in
set_option maxHeartbeats 2000000 in
theorem psum_any {w : World} {gk : Nat} {h : List B8} {v1 v2 : Value} {aad text : List Nat} (hk : Ky w gk h) (h1 : Bs w v1 aad) (h2 : Bs w v2 text) (l1 : aad.length ≤ 10000) (l2 : text.length ≤ 10000) :
    Calls Try.prog 16 #[.pointer (some ⟨gk, 0, none⟩), v1, v2] w fun e w' => e = .returned (.agg (u8s (nts (gsum h aad text))).toArray) ∧ But (fun _ => False) w w' := by
  obtain ⟨g, hg⟩ : ∃ g, g = w.heap.size := ⟨_, rfl⟩
  have hz := zeroG
  obtain ⟨Z, hZ⟩ : ∃ Z, Z = (u8s (List.replicate 16 0)).toArray := ⟨_, rfl⟩
  rw [← hZ] at hz
  obtain ⟨W0, hW0⟩ : ∃ W0, W0 = ((w.alloc (.cells #[.pointer (some ⟨gk, 0, none⟩)] 29)).alloc (.cells Z 22)).alloc (.cells #[.int .u64 0, .int .u64 0] 39) := ⟨_, rfl⟩
  have al : ∀ (x : World) (o : Obj), But (fun _ => False) x (x.alloc o) := fun x o => (But.refl _ x).alloc o
  have hT0 : But (fun _ => False) w W0 := by rw [hW0]; exact ((al _ _).alloc _).alloc _
  have hkl : gk < g := by rw [hg]; exact hk.lt
  have hC0 : Blk W0 g 29 [.pointer (some ⟨gk, 0, none⟩)] := by rw [hW0]; exact ((Blk.new hg.symm).but (al _ _) (fun h => h)).but (al _ _) (fun h => h)
  have HR0 : Hid (Blk W0 (g + 1) 22 (u8s (List.replicate 16 0))) := by rw [hW0, hZ]; exact (Blk.new (by simp [hg])).but (al _ _) (fun h => h)
  have hA0 : Blk W0 (g + 2) 39 (ev 0#128) := by rw [hW0, ev_zero]; exact Blk.new (by simp [hg])
  have hTK : Tk W0 gk g (g + 2) h 0#128 := ⟨hk.but hT0 (fun h => h), hC0.cell 0, hA0, by omega, by omega⟩
  have ho : ∀ {v : Value} {zs : List Nat}, Bs w v zs → 0 < zs.length → ∀ j, v.ownBlock = some j → j ≠ g + 2 := by
    intro v zs hv hne j hj
    obtain ⟨_, _, ⟨e, _⟩ | ⟨_, b, so, cap', rfl, _, hb, _⟩⟩ := hv
    · rw [e] at hne; exact absurd hne (by decide)
    · cases hj
      show b ≠ g + 2
      omega
  have HO1 := Hid.mk' (ho h1)
  have HO2 := Hid.mk' (ho h2)
  have HG := Hid.mk' hg
  have HW := Hid.mk' hW0
  have HT0 := Hid.mk' hT0
  have HV2 := Hid.mk' (h2.but hT0 (fun _ _ _ h => h))
  have HE1 := Hid.mk' (each_any hTK (h1.but hT0 (fun _ _ _ h => h)) l1 HO1.out)
  obtain ⟨ao1, c1, rfl⟩ : ∃ ao c, v1 = .slice ao aad.length c := by obtain ⟨ao, c, e, -, -⟩ := h1.gen; exact ⟨ao, c, e⟩
  obtain ⟨ao2, c2, rfl⟩ : ∃ ao c, v2 = .slice ao text.length c := by obtain ⟨ao, c, e, -, -⟩ := h2.gen; exact ⟨ao, c, e⟩
  obtain ⟨A, hA⟩ : ∃ A, A = aad.length := ⟨_, rfl⟩
  obtain ⟨T, hT⟩ : ∃ T, T = text.length := ⟨_, rfl⟩
  have HA := Hid.mk' hA
  have HT := Hid.mk' hT
  rw [← hA] at HE1 l1 ⊢
  rw [← hT] at l2 ⊢
  have hmf : ∀ (fn : Fn) (first cap : Array Value) (w : World), (Instr.makeFunc fn first cap).run Try.prog w = .ok (.func fn first cap) w := fun _ _ _ _ => rfl
  clear hg hW0 hT0 hZ hC0 hA0 hTK ho h1 h2 hkl al hk hA hT
  go_enter Try.func16, Try.ntmps16
  go_wp2_with fail
  rw [← HW.out, ← HG.out]
  rw [show g + 1 + 1 = g + 2 from rfl]
  refine Calls.mono HE1.out ?_
  rintro e w1 ⟨rfl, ht1, hb1⟩
  have HR1 := Hid.mk' (HR0.out.but hb1 (show ¬ (g + 1 = g + 2) by omega))
  have HE2 := Hid.mk' (each_any ht1 (HV2.out.step hb1 HO2.out) (by rw [← HT.out]; exact l2) HO2.out)
  rw [← HT.out] at HE2
  have HT1 := Hid.mk' (HT0.out.then hb1 (fun j hj e => by have := HG.out; omega))
  clear ht1 hb1 HE1 HR0 HT0 HW HV2 HO1 HO2
  go_wp2_with fail
  refine Calls.mono HE2.out ?_
  rintro e w2 ⟨rfl, ht2, hb2⟩
  have HR2 := Hid.mk' (HR1.out.but hb2 (show ¬ (g + 1 = g + 2) by omega))
  have HT2 := Hid.mk' (HT1.out.then hb2 (fun j hj e => by have := HG.out; omega))
  have HK2 := Hid.mk' ht2
  clear ht2 hb2 HE2 HR1 HT1
  go_wp2_with fail
  refine Calls.mono (bitsOf_any l1) ?_
  rintro e w' ⟨rfl, hw'⟩
  have hw2 := hw'.symm
  subst hw2
  clear hw'
  go_wp2_with fail
  refine Calls.mono (bitsOf_any l2) ?_
  rintro e w' ⟨rfl, hw'⟩
  have hw2 := hw'.symm
  subst hw2
  clear hw'
  go_wp2_with fail
  refine Calls.mono (blockOf_any (8 * A) (8 * T) (by omega) (by omega)) ?_
  rintro e w3 ⟨rfl, hb3⟩
  rw [be_last, ← last_bytes]
  obtain ⟨y, hy⟩ : ∃ y, y = gF (toG h) (gF (toG h) 0#128 (padB aad) (nblk A)) (padB text) (nblk T) := ⟨_, rfl⟩
  rw [← hy] at HK2
  have HTK := Hid.mk' (take_any (HK2.out.then hb3) (blkAt_len (lastB A T) 0))
  have HR3 := Hid.mk' (HR2.out.but hb3 (fun h => h))
  have HT3 := Hid.mk' (HT2.out.trans hb3)
  obtain ⟨B, hB⟩ : ∃ B, B = blkAt (lastB A T) 0 := ⟨_, rfl⟩
  rw [← hB] at HTK ⊢
  have HB := Hid.mk' hB
  have HY := Hid.mk' hy
  clear hb3 hy hB HK2 HR2 HT2
  go_wp2_with fail
  refine Calls.mono HTK.out ?_
  rintro e w4 ⟨rfl, ht4, hb4⟩
  have HR4 := Hid.mk' (HR3.out.but hb4 (show ¬ (g + 1 = g + 2) by omega))
  have HT4 := Hid.mk' (HT3.out.then hb4 (fun j hj e => by have := HG.out; omega))
  have HS : Hid (gm (y ^^^ toG B) (toG h) = toG (gsum h aad text)) := by
    show _ = _
    rw [gsum_parts, HY.out, HB.out, HA.out, HT.out]
  have HACC := Hid.mk' ht4.acc
  rw [HS.out] at HACC
  obtain ⟨s, hs⟩ : ∃ s, s = toG (gsum h aad text) := ⟨_, rfl⟩
  rw [← hs] at HACC
  have HSS := Hid.mk' hs
  clear ht4 hb4 hs HTK HR3 HT3
  go_wp2_with (first
    | (refine wpList_load_ev rfl _ rfl ⟨g + 2, 0, none⟩ s rfl (blk_add HACC.out) ?_)
    | fail)
  refine Calls.mono (block_any s) ?_
  rintro e w5 ⟨rfl, hb5⟩
  have HR5 := Hid.mk' (HR4.out.but hb5 (fun h => h))
  have HT5 := Hid.mk' (HT4.out.trans hb5)
  have HO : Hid (ofG s = gsum h aad text) := by show _ = _; rw [HSS.out]; exact ofG_toG (gsumN_len _ _ _)
  rw [HO.out]
  obtain ⟨zs, hzs⟩ : ∃ zs, zs = nts (gsum h aad text) := ⟨_, rfl⟩
  rw [← hzs]
  have HZL : Hid (zs.length = 16) := by show _ = _; rw [hzs, nts_len]; exact gsumN_len _ _ _
  have HZS := Hid.mk' hzs
  clear hzs hb5 HR4 HT4 HACC
  go_wp2_with (refine wpList_store_u8s i16g rfl _ _ rfl (g + 1) zs HZL.out rfl (by exact rfl) _ (by simp [u8s]) HR5.out ?_; intro w9 hb9 hbut9)
  refine bodyPost_ret (results_cell_row rfl _ _ (g + 1) _ _ _ _ rfl hb9 Try.underlying22 rfl (by rw [i16g]; simp [u8s, HZL.out])) rfl ⟨by rw [← HZS.out], ?_⟩
  exact HT5.out.then hbut9 (fun j hj e => by have := HG.out; omega)
end Go.Proofs.Ytpdkdeebdhdhgaa
