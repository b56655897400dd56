/- count: the reference's At, Nonce. -/
import Derived.Test.YtffiphdbjohilaaCtRPack
namespace Go.Proofs.Ytffiphdbjohilaa
open Go.ChangeShapes Go.WideShapes Go.ChangeAt Go.RowKit Go.Deep

set_option maxRecDepth 100000 in
set_option maxHeartbeats 3000000 in
theorem rat_any {w : World} {v : Value} {zs : List Nat} {i : Nat} (hv : Bs w v zs) (hl : zs.length = 256) (hi : i < 16) :
    Calls Try.prog 16 #[v, .int .i64 (i : Int)] w fun r w' => r = .returned (evalE (atE zs i)) ∧ But (fun _ => False) w w' := by
  have hze := zeroE
  have h1 := hv.1
  obtain ⟨_, _, ⟨rfl, _⟩ | ⟨h3, b, so, cap, rfl, hcap, hbl, hcell⟩⟩ := id hv
  · exact absurd hl (by decide)
  rw [hl] at hv hcap ⊢
  obtain ⟨W1, hW1⟩ : ∃ W1, W1 = w.alloc (.cells #[.int .u32 0, .int .u32 0, .int .u64 0] 39) := ⟨_, rfl⟩
  have HT1 : Hid (But (fun _ => False) w W1) := by rw [hW1]; exact (But.refl _ _).alloc _
  have HQ1 : Hid (Blk W1 w.heap.size 39 ([] ++ [.int .u32 0, .int .u32 0, .int .u64 0] ++ [])) := by rw [hW1]; exact Blk.new rfl
  have HW := Hid.mk' hW1
  obtain ⟨k, hk⟩ : ∃ k, k = 16 * i := ⟨_, rfl⟩
  have hm : Bs W1 (.slice (some ⟨b, so + k, none⟩) 16 (cap - k)) ((zs.drop k).take 16) := by
    have := (hv.mid (n := k) (e := k + 16) (by omega) (by omega)).but HT1.out (fun _ _ _ h => h)
    rwa [Nat.add_sub_cancel_left] at this
  have hs := slice_mid (b := b) (so := so) (m := 256) (cap := cap) (n := k) (e := k + 16) (by omega) (by omega) (by omega) W1
  rw [Nat.add_sub_cancel_left] at hs
  obtain ⟨m, hme⟩ : ∃ m, m = k + 16 := ⟨_, rfl⟩
  rw [← hme] at hs
  have k1 : (16 : Int) * (i : Int) = (k : Int) := by omega
  have k2 : (k : Int) + 16 = (m : Int) := by omega
  have HE : Hid (en ((zs.drop k).take 16) = atE zs i) := by show _ = _; rw [en_take, hk]; rfl
  have hyl : ((zs.drop k).take 16).length = 16 := by rw [List.length_take, List.length_drop]; omega
  have hk2 : m ≤ 256 := by omega
  have hC : 16 ≤ cap - k := by omega
  rw [← HE.out]
  clear hW1 hv hl hcell h3 hk hme HE
  generalize (zs.drop k).take 16 = ys at *
  obtain ⟨C, hCe⟩ : ∃ C, C = cap - k := ⟨_, rfl⟩
  obtain ⟨O, hOe⟩ : ∃ O, O = so + k := ⟨_, rfl⟩
  rw [← hCe] at hm hs hC
  rw [← hOe] at hm hs
  have hyb := hm.1
  have b1 : Bs W1 (.slice (some ⟨b, O, none⟩) 4 C) (ys.take 4) := hm.front (by omega) nofun
  have b2 : Bs W1 (.slice (some ⟨b, O + 4, none⟩) 4 (C - 4)) ((ys.drop 4).take 4) := hm.mid (n := 4) (e := 8) (by omega) (by omega)
  have b3 : Bs W1 (.slice (some ⟨b, O + 8, none⟩) 8 (C - 8)) ((ys.drop 8).take 8) := hm.mid (n := 8) (e := 16) (by omega) (by omega)
  have v1 := val_lt ys hyb 4 (by omega)
  have v2 := val_lt (ys.drop 4) (fun z hz => hyb z (List.mem_of_mem_drop hz)) 4 (by rw [List.length_drop]; omega)
  obtain ⟨E, hE⟩ : ∃ E, E = val (ys.take 4) := ⟨_, rfl⟩
  obtain ⟨B, hB⟩ : ∃ B, B = val ((ys.drop 4).take 4) := ⟨_, rfl⟩
  obtain ⟨S, hS⟩ : ∃ S, S = val ((ys.drop 8).take 8) := ⟨_, rfl⟩
  have HEN : Hid (evalE (en ys) = .agg #[.int .u32 (E : Int), .int .u32 (B : Int), .int .u64 (S : Int)]) := by rw [hE, hB, hS]; exact rfl
  have N1 : Hid (∀ w', But (fun _ => False) W1 w' → Calls Try.prog 26 #[.slice (some ⟨b, O, none⟩) 4 C] w' fun e w'' => e = .returned (.int .u64 (E : Int)) ∧ But (fun _ => False) W1 w'') := fun w' hw' =>
    (refNum_any (b1.but hw' (fun _ _ _ h => h)) (by simp; omega)).mono (fun e w'' h => ⟨by rw [h.1, hE], by rw [h.2]; exact hw'⟩)
  have N2 : Hid (∀ w', But (fun _ => False) W1 w' → Calls Try.prog 26 #[.slice (some ⟨b, O + 4, none⟩) 4 (C - 4)] w' fun e w'' => e = .returned (.int .u64 (B : Int)) ∧ But (fun _ => False) W1 w'') := fun w' hw' =>
    (refNum_any (b2.but hw' (fun _ _ _ h => h)) (by simp; omega)).mono (fun e w'' h => ⟨by rw [h.1, hB], by rw [h.2]; exact hw'⟩)
  have N3 : Hid (∀ w', But (fun _ => False) W1 w' → Calls Try.prog 26 #[.slice (some ⟨b, O + 8, none⟩) 8 (C - 8)] w' fun e w'' => e = .returned (.int .u64 (S : Int)) ∧ But (fun _ => False) W1 w'') := fun w' hw' =>
    (refNum_any (b3.but hw' (fun _ _ _ h => h)) (by simp; omega)).mono (fun e w'' h => ⟨by rw [h.1, hS], by rw [h.2]; exact hw'⟩)
  rw [← hE] at v1
  rw [← hB] at v2
  have hE2 : (E : Int) < 4294967296 := by omega
  have hB2 : (B : Int) < 4294967296 := by omega
  have we : IntKind.u32.wrap (E : Int) = (E : Int) := by
    have e1 : IntKind.u32.wrap (E : Int) = (E : Int) % 4294967296 := rfl
    omega
  have wb : IntKind.u32.wrap (B : Int) = (B : Int) := by
    have e1 : IntKind.u32.wrap (B : Int) = (B : Int) % 4294967296 := rfl
    omega
  rw [HEN.out]
  have q1 : (4 : Int) ≤ (C : Int) := by omega
  have q2 : (8 : Int) ≤ (C : Int) := by omega
  have q3 : ¬ C = 4 := by omega
  have q4 : ¬ C = 8 := by omega
  clear b1 b2 b3 hE hB hS v1 v2 hyb hm h1 hOe hCe hyl hC
  go_enter Try.func16, Try.ntmps16
  go_upto_region 1 with fail
  rw [← HW.out]
  go_upto_region 2 with fail
  refine region_class (l := [_, _, _, _, _, _, _, _, _, _, _, _]) (o := _) (fun w' => But (fun _ => False) W1 w') (by kernel_rfl) (by kernel_rfl) (by kernel_rfl) rfl (by kernel_rfl) (by kernel_rfl) ((But.refl _ W1).drew) ?_
  refine class_val (.slice (some ⟨b, O, none⟩) 16 C) rfl (fun w' _ => by go_simp) ?_
  intro K hK; go_simp; refine hK _ ?_; clear hK K
  refine class_val (.slice (some ⟨b, O, none⟩) 4 C) rfl (fun w' _ => by go_simp) ?_
  intro K hK; go_simp; refine hK _ ?_; clear hK K
  refine class_call (.int .u64 (E : Int)) 26 #[.slice (some ⟨b, O, none⟩) 4 C] rfl (fun w' _ => by kernel_rfl) N1.out ?_
  intro K hK; go_simp; refine hK _ ?_; clear hK K
  refine class_val (.int .u32 (E : Int)) rfl (fun w' _ => by go_simp) ?_
  intro K hK; go_simp; refine hK _ ?_; clear hK K
  refine class_val (.slice (some ⟨b, O, none⟩) 16 C) rfl (fun w' _ => by go_simp) ?_
  intro K hK; go_simp; refine hK _ ?_; clear hK K
  refine class_val (.slice (some ⟨b, O + 4, none⟩) 4 (C - 4)) rfl (fun w' _ => by go_simp) ?_
  intro K hK; go_simp; refine hK _ ?_; clear hK K
  refine class_call (.int .u64 (B : Int)) 26 #[.slice (some ⟨b, O + 4, none⟩) 4 (C - 4)] rfl (fun w' _ => by kernel_rfl) N2.out ?_
  intro K hK; go_simp; refine hK _ ?_; clear hK K
  refine class_val (.int .u32 (B : Int)) rfl (fun w' _ => by go_simp) ?_
  intro K hK; go_simp; refine hK _ ?_; clear hK K
  refine class_val (.slice (some ⟨b, O, none⟩) 16 C) rfl (fun w' _ => by go_simp) ?_
  intro K hK; go_simp; refine hK _ ?_; clear hK K
  refine class_val (.slice (some ⟨b, O + 8, none⟩) 8 (C - 8)) rfl (fun w' _ => by go_simp) ?_
  intro K hK; go_simp; refine hK _ ?_; clear hK K
  refine class_call (.int .u64 (S : Int)) 26 #[.slice (some ⟨b, O + 8, none⟩) 8 (C - 8)] rfl (fun w' _ => by kernel_rfl) N3.out ?_
  intro K hK; go_simp; refine hK _ ?_; clear hK K
  refine class_val (.agg #[.int .u32 (E : Int), .int .u32 (B : Int), .int .u64 (S : Int)]) rfl (fun w' _ => by go_simp) ?_
  intro K hK; go_simp; refine hK _ ?_; clear hK K
  refine wpQuiet_nil ?_
  intro w6 hw6
  have HT6 := Hid.mk' hw6
  have HQ6 := Hid.mk' (HQ1.out.but hw6 (fun h => h))
  clear hw6
  go_wp2_with (refine wpList_store_at rfl _ _ _ rfl w.heap.size 0 [.int .u32 (E : Int), .int .u32 (B : Int), .int .u64 (S : Int)] rfl (by exact rfl) 39 [] [.int .u32 0, .int .u32 0, .int .u64 0] [] HQ6.out rfl rfl (by rw [iEn]; rfl) (by simp [Value.oneCell']) ?_; intro w4 hb4 hbut4)
  have hb5 : Blk w4 w.heap.size 39 [.int .u32 (E : Int), .int .u32 (B : Int), .int .u64 (S : Int)] := by simpa using hb4
  refine bodyPost_ret (results_cell_row rfl _ _ w.heap.size _ _ _ _ rfl hb5 Try.underlying39 rfl (by rw [iEn]; rfl)) rfl ⟨rfl, ?_⟩
  exact (HT1.out.trans HT6.out).then hbut4 (fun j hj e => by omega)

/-- The first k bytes of a nonce. -/
def upN (ns : List Nat) (k : Nat) : List Nat := ns.take k ++ List.replicate (12 - k) 0
theorem upN_next (ns : List Nat) (k : Nat) (hl : ns.length = 12) (hk : k < 12) : (upN ns k).set k (ns.getD k 0) = upN ns (k + 1) := by
  unfold upN
  have h1 : (ns.take k).length = k := by simp; omega
  rw [List.set_append_right _ _ (by omega), h1, Nat.sub_self, show 12 - k = (12 - (k + 1)) + 1 by omega, List.replicate_succ, List.set_cons_zero, take_next' ns k (by omega)]
  simp
set_option maxRecDepth 100000 in
set_option maxHeartbeats 3000000 in
theorem rnonce_any {w : World} (x : En) (hx : x.ok) :
    Calls Try.prog 20 #[evalE x] w fun r w' => r = .returned (.agg (u8s (nbs x)).toArray) ∧ But (fun _ => False) w w' := by
  have HX := Hid.mk' hx
  obtain ⟨E, B, S⟩ := x
  obtain ⟨g, hg⟩ : ∃ g, g = w.heap.size := ⟨_, rfl⟩
  have hz := zeroN
  obtain ⟨Z, hZ⟩ : ∃ Z, Z = (u8s (List.replicate 12 0)).toArray := ⟨_, rfl⟩
  rw [← hZ] at hz
  obtain ⟨W0, hW0⟩ : ∃ W0, W0 = ((w.alloc (.cells #[.int .u32 (E : Int), .int .u32 (B : Int), .int .u64 (S : Int)] 39)).alloc (.cells Z 47)).alloc (.cells Z 47) := ⟨_, rfl⟩
  have al : ∀ (x : World) (o : Obj), But (fun _ => False) x (x.alloc o) := fun x o => (But.refl _ x).alloc o
  have HT0 : Hid (But (fun _ => False) w W0) := by rw [hW0]; exact ((al _ _).alloc _).alloc _
  have HE0 : Hid (Blk W0 g 39 (ecells ⟨E, B, S⟩)) := by rw [hW0]; exact ((Blk.new hg.symm).but (al _ _) (fun h => h)).but (al _ _) (fun h => h)
  have HR0 : Hid (Blk W0 (g + 1) 47 (u8s (List.replicate 12 0))) := by rw [hW0, hZ]; exact (Blk.new (by simp [hg])).but (al _ _) (fun h => h)
  have HO0 : Hid (Blk W0 (g + 2) 47 (u8s (List.replicate 12 0))) := by rw [hW0, hZ]; exact Blk.new (by simp [hg])
  have HBY := Hid.mk' (rbytes_any (w := W0) ⟨E, B, S⟩ hx)
  have HG := Hid.mk' hg
  have HW0 := Hid.mk' hW0
  clear hg hW0 hZ al hx
  show Calls _ _ #[.agg #[_, _, _]] _ _
  go_enter Try.func20, Try.ntmps20
  go_upto_region 2 with fail
  rw [← HW0.out, ← HG.out, show g + 1 + 1 = g + 2 from rfl]
  go_wp2_with (refine wpList_load_cells rfl _ _ rfl ⟨g, 0, none⟩ rfl (ecells ⟨E, B, S⟩) _ HE0.out.cells0 Try.underlying39 rfl (by rw [iEn]; rfl) ?_)
  refine Calls.mono HBY.out ?_
  rintro e w1 ⟨v1, rfl, hb1, ht1⟩
  have hel : (ebs ⟨E, B, S⟩).length = 16 := ebs_len _
  obtain ⟨ns, hns⟩ : ∃ ns, ns = nbs ⟨E, B, S⟩ := ⟨_, rfl⟩
  have hnl : ns.length = 12 := by rw [hns, nbs_len]
  have hget : ∀ i, i < 12 → (ebs ⟨E, B, S⟩).getD (4 + i) 0 = ns.getD i 0 := fun i hi => by
    rw [hns, ebs, List.getD, List.getElem?_append_right (by rw [be_len]; omega), be_len, Nat.add_sub_cancel_left]; rfl
  obtain ⟨hlt, _, ⟨he, _⟩ | ⟨_, b, off, cap, rfl, hcap, hbl, hcell⟩⟩ := hb1
  · rw [he] at hel; exact absurd hel (by decide)
  rw [hel] at hcap hcell ⊢
  have HC1 : Hid (∀ i, i < 12 → w1.cell? ⟨b, off + (4 + i), none⟩ = some (.int .u8 (ns.getD i 0 : Nat))) := fun i hi => by rw [hcell (4 + i) (by omega), hget i hi]
  have HLT : Hid (∀ i, i < 12 → ns.getD i 0 < 256) := fun i hi => by rw [hns]; exact nbs_lt _ _ (getD_mem _ _ (by rw [nbs_len]; exact hi))
  have HR1 := Hid.mk' (HR0.out.but ht1 (fun h => h))
  have HO1 : Hid (Blk w1 (g + 2) 47 (u8s (upN ns 0))) := HO0.out.but ht1 (fun h => h)
  have HT1 := Hid.mk' (HT0.out.trans ht1)
  have HNS := Hid.mk' hns
  have HNL := Hid.mk' hnl
  have hgb : b ≠ g + 2 := by
    rintro rfl
    have h15 := hcell 15 (by omega)
    rw [HO1.out.cell, List.getElem?_eq_none (by simp [u8s, upN])] at h15
    cases h15
  clear hget hcell hlt ht1 hel hnl hns hz
  go_wp2
  go_loopw [5] (fun i wr => ∃ k : Nat, k ≤ 12 ∧ i = .int .i64 k ∧ Blk wr (g + 2) 47 (u8s (upN ns k)) ∧ But (· = g + 2) w1 wr) (fun i _ => 12 - (intOf i).toNat)
  case atStart => exact ⟨0, Nat.zero_le _, rfl, HO1.out, But.refl _ _⟩
  case round =>
    obtain ⟨k, hk, rfl, hb, ht⟩ := hrel
    by_cases hlt : k < 12
    · obtain ⟨z, hz⟩ : ∃ z, z = ns.getD k 0 := ⟨_, rfl⟩
      have c1 : wr.cell? ⟨b, off + (4 + k), none⟩ = some (.int .u8 (z : Int)) := by rw [hz]; exact (World.cell?_of_block (ht.block b hbl hgb)).trans (HC1.out k hlt)
      have hz1 : z < 256 := by rw [hz]; exact HLT.out k hlt
      obtain ⟨old, ho⟩ : ∃ x, wr.cell? ⟨g + 2, k, none⟩ = some x := by
        rw [hb.cell]
        exact ⟨_, List.getElem?_eq_getElem (show k < (u8s (upN ns k)).length by have := HNL.out; simp [u8s, upN]; omega)⟩
      have hf := hb.free k
      have HB := Hid.mk' hb
      have HT := Hid.mk' ht
      have HZ := Hid.mk' hz
      clear hb ht hz
      go_wp2
      refine ⟨⟨k + 1, by omega, by go_num, ?_, HT.out.setCell (p := ⟨g + 2, k, none⟩) (fun _ => rfl) _⟩, by simp [intOf]; omega⟩
      have := HB.out.set k (.int .u8 (z : Int))
      rw [u8s_set, HZ.out, upN_next ns k HNL.out hlt] at this
      rw [HZ.out]
      exact this
    · have hkn : k = 12 := by omega
      subst hkn
      have hup : upN ns 12 = ns := by unfold upN; rw [List.take_of_length_le (by have := HNL.out; omega)]; simp
      rw [hup] at hb
      have HB := Hid.mk' hb
      have HR2 := Hid.mk' (HR1.out.but ht (show ¬ (g + 1 = g + 2) by omega))
      have HT := Hid.mk' ht
      clear hb ht hup
      go_wp2_with (first
        | (refine wpList_load_u8s Try.underlying47 i12n rfl _ rfl (g + 2) ns HNL.out rfl HB.out ?_)
        | (refine wpList_store_u8s i12n rfl _ _ rfl (g + 1) ns HNL.out rfl (by exact rfl) _ (by simp [u8s]) HR2.out ?_; intro w9 hb9 hbut9))
      refine bodyPost_ret (results_cell_row rfl _ _ (g + 1) _ _ _ _ rfl hb9 Try.underlying47 rfl (by rw [i12n]; simp [u8s, HNL.out])) rfl ⟨by rw [HNS.out], ?_⟩
      exact (HT1.out.then HT.out (fun j hj e => by have := HG.out; omega)).then hbut9 (fun j hj e => by have := HG.out; omega)
end Go.Proofs.Ytffiphdbjohilaa
