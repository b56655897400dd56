/- ghash: Times and New; Sum of no key. -/
import Derived.Test.YtpdkdeebdhdhgaaGhashBlk
namespace Go.Proofs.Ytpdkdeebdhdhgaa
open Go.RowKit

set_option maxRecDepth 100000 in
set_option maxHeartbeats 1000000 in
theorem block_any {w : World} (g : G) :
    Calls Try.prog 23 #[.agg (ev g).toArray] w fun r w' => r = .returned (.agg (u8s (nts (ofG g))).toArray) ∧ But (fun _ => False) w w' := by
  obtain ⟨b, hbb⟩ : ∃ b, b = w.heap.size := ⟨_, rfl⟩
  have hz := zeroG
  obtain ⟨Z, hZ⟩ : ∃ Z, Z = (u8s (List.replicate 16 0)).toArray := ⟨_, rfl⟩
  rw [← hZ] at hz
  obtain ⟨C, hC⟩ : ∃ C, C = (ev g).toArray := ⟨_, rfl⟩
  rw [← hC]
  obtain ⟨W0, hW0⟩ : ∃ W0, W0 = (w.alloc (.cells C 39)).alloc (.cells Z 22) := ⟨_, rfl⟩
  have al : ∀ (x : World) (o : Obj), But (fun _ => False) x (x.alloc o) := fun x o => (But.refl _ x).alloc o
  have HT0 : Hid (But (fun _ => False) w W0) := by rw [hW0]; exact (al _ _).alloc _
  have hA0 : Blk W0 b 39 (ev g) := by rw [hW0, hC]; exact (Blk.new hbb.symm).but (al _ _) (fun h => h)
  have HR0 : Hid (Blk W0 (b + 1) 22 (u8s (List.replicate 16 0))) := by rw [hW0, hZ]; exact Blk.new (by simp [hbb])
  have c1 := ev_first hA0
  have c2 := ev_second hA0
  rw [hW0, hbb] at c1 c2
  have HB := Hid.mk' hbb
  have HW := Hid.mk' hW0
  have HP := Hid.mk' (blockOf_any (w := W0) (n6 (fw g)) (n6 (sw g)) (n6_lt _) (n6_lt _))
  rw [be_words] at HP
  obtain ⟨zs, hzs⟩ : ∃ zs, zs = nts (ofG g) := ⟨_, rfl⟩
  rw [← hzs] at HP ⊢
  have HZL : Hid (zs.length = 16) := by show _ = _; rw [hzs, nts_len, ofG_len]
  clear hbb hW0 hZ hC hA0 hzs al
  go_enter Try.func23, Try.ntmps23
  go_wp2_with fail
  rw [← HW.out, ← HB.out]
  refine Calls.mono HP.out ?_
  rintro e w1 ⟨rfl, hb1⟩
  have HR1 := Hid.mk' (HR0.out.but hb1 (fun h => h))
  have HT1 := Hid.mk' (HT0.out.trans hb1)
  clear hb1 HP c1 c2
  go_wp2_with (refine wpList_store_u8s i16g rfl _ _ rfl (b + 1) zs HZL.out rfl (by exact rfl) _ (by simp [u8s]) HR1.out ?_; intro w9 hb9 hbut9)
  refine bodyPost_ret (results_cell_row rfl _ _ (b + 1) _ _ _ _ rfl hb9 Try.underlying22 rfl (by rw [i16g]; simp [u8s, HZL.out])) rfl ⟨rfl, ?_⟩
  exact HT1.out.then hbut9 (fun j hj e => by have := HB.out; omega)
/-- Room for the multiples. -/
def nought : List Value := List.replicate 256 (.int .u64 0)
theorem zeroM (w : World) : (zeroValue 41).run Try.prog w = .ok (.agg nought.toArray) w := by kernel_rfl
set_option maxRecDepth 100000 in
set_option maxHeartbeats 1000000 in
theorem ptimes_any {w : World} {a b : List B8} (ha : a.length = 16) (hb : b.length = 16) :
    Calls Try.prog 9 #[.agg (u8s (nts a)).toArray, .agg (u8s (nts b)).toArray] w fun e w' => e = .returned (.agg (u8s (nts (gtimes a b))).toArray) ∧ But (fun _ => False) w w' := by
  obtain ⟨g, hg⟩ : ∃ g, g = w.heap.size := ⟨_, rfl⟩
  have hz := zeroG
  obtain ⟨Z, hZ⟩ : ∃ Z, Z = (u8s (List.replicate 16 0)).toArray := ⟨_, rfl⟩
  rw [← hZ] at hz
  have hz2 := zeroM
  obtain ⟨M, hM⟩ : ∃ M, M = nought.toArray := ⟨_, rfl⟩
  rw [← hM] at hz2
  obtain ⟨A, hA⟩ : ∃ A, A = (u8s (nts a)).toArray := ⟨_, rfl⟩
  obtain ⟨B, hB⟩ : ∃ B, B = (u8s (nts b)).toArray := ⟨_, rfl⟩
  rw [← hA, ← hB]
  obtain ⟨W0, hW0⟩ : ∃ W0, W0 = (((w.alloc (.cells A 22)).alloc (.cells B 22)).alloc (.cells Z 22)).alloc (.cells M 41) := ⟨_, rfl⟩
  have al : ∀ (x : World) (o : Obj), But (fun _ => False) x (x.alloc o) := fun x o => (But.refl _ x).alloc o
  have HT0 : Hid (But (fun _ => False) w W0) := by rw [hW0]; exact (((al _ _).alloc _).alloc _).alloc _
  have HA0 : Hid (Blk W0 g 22 (u8s (nts a))) := by rw [hW0, hA]; exact (((Blk.new hg.symm).but (al _ _) (fun h => h)).but (al _ _) (fun h => h)).but (al _ _) (fun h => h)
  have HB0 : Hid (Blk W0 (g + 1) 22 (u8s (nts b))) := by rw [hW0, hB]; exact ((Blk.new (by simp [hg])).but (al _ _) (fun h => h)).but (al _ _) (fun h => h)
  have HR0 : Hid (Blk W0 (g + 2) 22 (u8s (List.replicate 16 0))) := by rw [hW0, hZ]; exact (Blk.new (by simp [hg])).but (al _ _) (fun h => h)
  have HM0 : Hid (Blk W0 (g + 3) 41 nought) := by rw [hW0, hM]; exact Blk.new (by simp [hg])
  have HG := Hid.mk' hg
  have HW := Hid.mk' hW0
  have HAL : Hid ((nts a).length = 16) := by show _ = _; rw [nts_len]; exact ha
  have HBL : Hid ((nts b).length = 16) := by show _ = _; rw [nts_len]; exact hb
  have HA' := Hid.mk' ha
  have HB' := Hid.mk' hb
  clear hg hW0 hZ hM hA hB al ha hb
  go_enter Try.func9, Try.ntmps9
  go_wp2_with (first
    | (rw [← HW.out, ← HG.out]; refine wpList_load_u8s Try.underlying22 i16g rfl _ rfl (g + 1) (nts b) HBL.out rfl HB0.out ?_)
    | fail)
  rw [show g + 1 + 1 = g + 2 from rfl, show g + 2 + 1 = g + 3 from rfl]
  refine Calls.mono (elementOf_any HB'.out) ?_
  rintro e w1 ⟨rfl, hb1⟩
  have HF := Hid.mk' (fill_any (a := toG b) (HM0.out.but hb1 (fun h => h)) (by decide))
  have HA1 := Hid.mk' (HA0.out.but hb1 (fun h => h))
  have HR1 := Hid.mk' (HR0.out.but hb1 (fun h => h))
  have HT1 := Hid.mk' (HT0.out.trans hb1)
  clear hb1 HA0 HB0 HR0 HM0 HT0 HW
  go_wp2_with fail
  refine Calls.mono HF.out ?_
  rintro e w2 ⟨rfl, hm2, hb2⟩
  have HM2 := Hid.mk' hm2
  have HA2 := Hid.mk' (HA1.out.but hb2 (show ¬ (g = g + 3) by omega))
  have HR2 := Hid.mk' (HR1.out.but hb2 (show ¬ (g + 2 = g + 3) by omega))
  have HT2 := Hid.mk' (HT1.out.then hb2 (fun j hj e => by have := HG.out; omega))
  clear hm2 hb2 HF HA1 HR1 HT1
  go_wp2_with (first
    | (refine wpList_load_u8s Try.underlying22 i16g rfl _ rfl g (nts a) HAL.out rfl HA2.out ?_)
    | fail)
  refine Calls.mono (elementOf_any HA'.out) ?_
  rintro e w3 ⟨rfl, hb3⟩
  have HM3 := Hid.mk' (times_any (e := toG a) (HM2.out.but hb3 (fun h => h)))
  have HR3 := Hid.mk' (HR2.out.but hb3 (fun h => h))
  have HT3 := Hid.mk' (HT2.out.trans hb3)
  clear hb3 HM2 HR2 HT2 HA2
  go_wp2_with fail
  refine Calls.mono HM3.out ?_
  rintro e w4 ⟨rfl, hb4⟩
  have HR4 := Hid.mk' (HR3.out.but hb4 (fun h => h))
  have HT4 := Hid.mk' (HT3.out.trans hb4)
  clear hb4 HM3 HR3 HT3
  go_wp2_with fail
  refine Calls.mono (block_any (gm (toG a) (toG b))) ?_
  rintro e w5 ⟨rfl, hb5⟩
  have HR5 := Hid.mk' (HR4.out.but hb5 (fun h => h))
  have HT5 := Hid.mk' (HT4.out.trans hb5)
  rw [show ofG (gm (toG a) (toG b)) = gtimes a b from rfl]
  obtain ⟨zs, hzs⟩ : ∃ zs, zs = nts (gtimes a b) := ⟨_, rfl⟩
  rw [← hzs]
  have HZL : Hid (zs.length = 16) := by show _ = _; rw [hzs, nts_len, gtimes_len]
  have HZS := Hid.mk' hzs
  clear hb5 HR4 HT4 hzs
  go_wp2_with (refine wpList_store_u8s i16g rfl _ _ rfl (g + 2) zs HZL.out rfl (by exact rfl) _ (by simp [u8s]) HR5.out ?_; intro w9 hb9 hbut9)
  refine bodyPost_ret (results_cell_row rfl _ _ (g + 2) _ _ _ _ rfl hb9 Try.underlying22 rfl (by rw [i16g]; simp [u8s, HZL.out])) rfl ⟨by rw [← HZS.out], ?_⟩
  exact HT5.out.then hbut9 (fun j hj e => by have := HG.out; omega)
/-- A key in memory: its multiples. -/
def Ky (w : World) (gk : Nat) (h : List B8) : Prop := Blk w gk 50 (tb (toG h) 128)
theorem Ky.but {R : Nat → Prop} {w w' : World} {gk : Nat} {h : List B8} (k : Ky w gk h) (b : But R w w') (hr : ¬ R gk) : Ky w' gk h := Blk.but k b hr
theorem Ky.lt {w : World} {gk : Nat} {h : List B8} (k : Ky w gk h) : gk < w.heap.size := Blk.lt k
theorem zeroK (w : World) : (zeroValue 50).run Try.prog w = .ok (.agg nought.toArray) w := by kernel_rfl
set_option maxRecDepth 100000 in
set_option maxHeartbeats 1000000 in
theorem pnew_any {w : World} {h : List B8} (hh : h.length = 16) :
    Calls Try.prog 14 #[.agg (u8s (nts h)).toArray] w fun e w' => ∃ gk, e = .returned (.pointer (some ⟨gk, 0, none⟩)) ∧ Ky w' gk h ∧ w.heap.size ≤ gk ∧ But (fun _ => False) w w' := by
  obtain ⟨g, hg⟩ : ∃ g, g = w.heap.size := ⟨_, rfl⟩
  have hz2 := zeroK
  obtain ⟨M, hM⟩ : ∃ M, M = nought.toArray := ⟨_, rfl⟩
  rw [← hM] at hz2
  obtain ⟨A, hA⟩ : ∃ A, A = (u8s (nts h)).toArray := ⟨_, rfl⟩
  rw [← hA]
  obtain ⟨W0, hW0⟩ : ∃ W0, W0 = (w.alloc (.cells A 22)).alloc (.cells M 50) := ⟨_, rfl⟩
  have al : ∀ (x : World) (o : Obj), But (fun _ => False) x (x.alloc o) := fun x o => (But.refl _ x).alloc o
  have HT0 : Hid (But (fun _ => False) w W0) := by rw [hW0]; exact (al _ _).alloc _
  have HA0 : Hid (Blk W0 g 22 (u8s (nts h))) := by rw [hW0, hA]; exact (Blk.new hg.symm).but (al _ _) (fun h => h)
  have HM0 : Hid (Blk W0 (g + 1) 50 nought) := by rw [hW0, hM]; exact Blk.new (by simp [hg])
  have HG := Hid.mk' hg
  have HW := Hid.mk' hW0
  have HAL : Hid ((nts h).length = 16) := by show _ = _; rw [nts_len]; exact hh
  have HH := Hid.mk' hh
  clear hg hW0 hM hA al hh
  go_enter Try.func14, Try.ntmps14
  go_upto_region 2 with fail
  rw [← HW.out, ← HG.out]
  refine region_class (l := [_, _, _, _, _]) (o := _) (fun w' => But (fun _ => False) W0 w') (by kernel_rfl) (by kernel_rfl) (by kernel_rfl) rfl (by kernel_rfl) (by kernel_rfl) ((But.refl _ W0).drew) ?_
  refine class_val _ rfl (fun w' _ => rfl) ?_
  intro K hK; go_simp; refine hK _ ?_; clear hK K
  refine class_val _ rfl (fun w' _ => rfl) ?_
  intro K hK; go_simp; refine hK _ ?_; clear hK K
  refine class_val (.pointer (some ⟨g + 1, 0, none⟩)) rfl (fun w' _ => by go_simp) ?_
  intro K hK; go_simp; refine hK _ ?_; clear hK K
  refine class_val (.agg (u8s (nts h)).toArray) rfl (fun w' hw' => run_load16 HAL.out (blk_add (HA0.out.but hw' (fun h => h))) rfl rfl) ?_
  intro K hK; go_simp; refine hK _ ?_; clear hK K
  refine class_call (.agg (ev (toG h)).toArray) 21 #[.agg (u8s (nts h)).toArray] rfl (fun w' _ => by kernel_rfl) (fun w' hw' => (elementOf_any HH.out).mono (fun r w'' h => ⟨h.1, hw'.trans h.2⟩)) ?_
  intro K hK; go_simp; refine hK _ ?_; clear hK K
  refine wpQuiet_nil ?_
  intro w1 hw1
  have HF := Hid.mk' (fill_any (a := toG h) (HM0.out.but hw1 (fun h => h)) (by decide))
  have HT1 := Hid.mk' (HT0.out.trans hw1)
  clear hw1 HT0 HA0 HM0 HW
  go_wp2_with fail
  refine Calls.mono HF.out ?_
  rintro e w2 ⟨rfl, hm2, hb2⟩
  have HM2 := Hid.mk' hm2
  have HT2 := Hid.mk' (HT1.out.then hb2 (fun j hj e => by have := HG.out; omega))
  clear hm2 hb2 HF HT1
  go_wp2
  go_ret
  exact ⟨g + 1, rfl, HM2.out, by rw [HG.out]; omega, HT2.out⟩
set_option maxRecDepth 100000 in
set_option maxHeartbeats 1000000 in
theorem psum_nil {w : World} {v1 v2 : Value} :
    Calls Try.prog 16 #[.pointer none, v1, v2] w fun e w' => e = .returned (.agg (u8s (List.replicate 16 0)).toArray) ∧ But (fun _ => False) w w' := by
  go_enter Try.func16, Try.ntmps16
  go_wp2
  refine bodyPost_ret (results_cell_row rfl _ _ (w.heap.size + 1) 22 (u8s (List.replicate 16 0)).toArray (0, 0) _ rfl (Blk.new (by simp)) Try.underlying22 rfl (by rw [i16g]; simp [u8s])) rfl ⟨rfl, ((But.refl _ w).alloc _).alloc _⟩
end Go.Proofs.Ytpdkdeebdhdhgaa
