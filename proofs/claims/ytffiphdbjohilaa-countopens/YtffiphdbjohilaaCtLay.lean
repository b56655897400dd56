/- count: lay. -/
import Derived.Test.YtffiphdbjohilaaCtNonce
import Derived.Test.YtffiphdbjohilaaClasses
namespace Go.Proofs.Ytffiphdbjohilaa
open Go.RowKit

theorem slice_low {b so m cap n : Nat} (hn : n ≤ m) (hc : n < cap) (w0 : World) :
    (Instr.sliceAt 23 (.slice (some ⟨b, so, none⟩) m cap) (some (.int .i64 (n : Int))) none none).run Try.prog w0 = .ok (.slice (some ⟨b, so + n, none⟩) (m - n) (cap - n)) w0 := by
  have hu : Try.prog.underlying 23 = some (.slice (Try.prog.elem 23)) := by kernel_rfl
  have he : Try.prog.elem 23 = 5 := by kernel_rfl
  have hs : ∀ w0 : World, (sizeOf 5).run Try.prog w0 = .ok 1 w0 := fun w0 => by kernel_rfl
  rw [run_sliceAt_slice _ _ _ _ _ _ hu, run_slice_l w0 _ _ _ _ hu .i64 (n : Int) (by omega) (by omega), he, hs]
  have hcn : ¬ cap = n := by omega
  simp [Result.andThen, sliced, hcn, Addr.add]
/-- The bytes of a block in three parts around the entry i. -/
theorem parts (zs : List Nat) (n : Nat) (R : List Value)  : u8s zs ++ R = u8s (zs.take n) ++ u8s ((zs.drop n).take 4) ++ (u8s ((zs.drop (n + 4)).take 12) ++ (u8s (zs.drop (n + 16)) ++ R)) := by
  have e : zs = zs.take n ++ ((zs.drop n).take 4 ++ ((zs.drop (n + 4)).take 12 ++ zs.drop (n + 16))) := by
    have h1 : (zs.drop (n + 4)).take 12 ++ zs.drop (n + 16) = zs.drop (n + 4) := by
      have := List.take_append_drop 12 (zs.drop (n + 4))
      rwa [List.drop_drop] at this
    have h2 : (zs.drop n).take 4 ++ zs.drop (n + 4) = zs.drop n := by
      have := List.take_append_drop 4 (zs.drop n)
      rwa [List.drop_drop] at this
    rw [h1, h2, List.take_append_drop]
  conv => lhs; rw [e]
  simp only [u8s_append, List.append_assoc]
set_option maxRecDepth 100000 in
set_option maxHeartbeats 3000000 in
theorem lay_any {w : World} {g cap i : Nat} {zs : List Nat} {R : List Value} (x : En) (hx : x.ok) (hb : Blk w g 5 (u8s zs ++ R)) (hl : zs.length = 256) (hc : 256 ≤ cap) (hi : i < 16) :
    Calls Try.prog 21 #[.slice (some ⟨g, 0, none⟩) 256 cap, .int .i64 (i : Int), evalE x] w fun r w' => r = .returned (.tuple #[]) ∧ Blk w' g 5 (u8s (setE zs i x) ++ R) ∧ But (· = g) w w' := by
  obtain ⟨E, B, S⟩ := x
  have HXO := Hid.mk' hx
  obtain ⟨h1, -, -⟩ := hx
  obtain ⟨p, hp⟩ : ∃ p, p = w.heap.size := ⟨_, rfl⟩
  obtain ⟨k, hk⟩ : ∃ k, k = 16 * i := ⟨_, rfl⟩
  have hki : (i : Int) * 16 = (k : Int) := by omega
  have hk2 : k + 16 ≤ 256 := by omega
  have HK := Hid.mk' hk
  have hgp : g < p := by rw [hp]; exact hb.lt
  obtain ⟨W0, hW0⟩ : ∃ W0, W0 = w.alloc (.cells #[.int .u32 (E : Int), .int .u32 (B : Int), .int .u64 (S : Int)] 39) := ⟨_, rfl⟩
  have hT0 : But (fun _ => False) w W0 := by rw [hW0]; exact (But.refl _ w).alloc _
  have hE0 : Blk W0 p 39 [.int .u32 (E : Int), .int .u32 (B : Int), .int .u64 (S : Int)] := by rw [hW0]; exact Blk.new hp.symm
  have HB0 := Hid.mk' (hb.but hT0 (fun h => h))
  have HE0 := Hid.mk' hE0
  have HT0 := Hid.mk' hT0
  have HG := Hid.mk' hp
  have HL := Hid.mk' hl
  have HW0 := Hid.mk' hW0
  have c0 : W0.cell? ⟨p, 0, none⟩ = some (.int .u32 (E : Int)) := by rw [hE0.cell]; rfl
  have HP1 := Hid.mk' (put_ok (Bs.nil W0) (by decide) E 4 (by decide) (by decide) (by simp only at h1; omega))
  have hE : (E : Int) < 4294967296 := by simp only at h1; omega
  clear hE0 hT0 hp hW0 hb hl h1 hk
  show Calls _ _ #[_, _, .agg #[_, _, _]] _ _
  go_enter Try.func21, Try.ntmps21
  go_upto_region 1 with fail
  rw [← HW0.out, ← HG.out]
  go_wp2_with fail
  refine Calls.mono HP1.out ?_
  rintro e w1 ⟨v1, rfl, ho1, hb1⟩
  rw [List.nil_append] at ho1
  have HT1 : Hid (But (fun _ => False) W0 w1) := But.of hb1
  have HO1 := Hid.mk' ho1
  have HE1 := Hid.mk' (HE0.out.but HT1.out (fun h => h))
  have HN := Hid.mk' (nonce_any (w := w1) ⟨E, B, S⟩ HXO.out)
  clear ho1 hb1 HP1 c0
  obtain ⟨ge, ce, rfl, -, hge, hgl, hcv⟩ := HO1.out.held (by rw [be_len]; omega)
  rw [be_len] at hcv ⊢
  have HCE := Hid.mk' hcv
  clear hcv HO1
  go_wp2_with (first
    | (refine wpList_load_cells rfl _ _ rfl ⟨p, 0, none⟩ rfl (ecells ⟨E, B, S⟩) _ HE1.out.cells0 Try.underlying39 rfl (by rw [iEn]; rfl) ?_))
  refine Calls.mono HN.out ?_
  rintro e w2 ⟨rfl, hT2⟩
  have HT2 := Hid.mk' hT2
  obtain ⟨D, hD⟩ : ∃ D, D = nbs ⟨E, B, S⟩ := ⟨_, rfl⟩
  rw [← hD]
  have HD := Hid.mk' hD
  have HDL : Hid (D.length = 12) := by show _ = _; rw [hD, nbs_len]
  have hz := zeroN
  obtain ⟨Z, hZ⟩ : ∃ Z, Z = (u8s (List.replicate 12 0)).toArray := ⟨_, rfl⟩
  rw [← hZ] at hz
  have HT3 : Hid (But (fun _ => False) w2 (w2.alloc (.cells Z 47))) := (But.refl _ _).alloc _
  have HQ3 : Hid (Blk (w2.alloc (.cells Z 47)) w2.heap.size 47 (u8s (List.replicate 12 0))) := by rw [hZ]; exact Blk.new rfl
  clear hZ hD hT2 HN
  go_upto_region 3 with (refine wpList_store_u8s i12n rfl _ _ rfl w2.heap.size D HDL.out rfl (by exact rfl) _ (by simp [u8s]) HQ3.out ?_; intro w4 hb4 hbut4)
  have HT4 : Hid (But (· = w2.heap.size) (w2.alloc (.cells Z 47)) w4) := hbut4
  have HQ4 : Hid (Blk w4 w2.heap.size 47 (u8s D)) := hb4
  clear hbut4 hb4
  have T04 : But (fun _ => False) w w4 := ((((HT0.out.trans HT1.out).trans HT2.out).trans HT3.out).then HT4.out (fun j hj e => by
    have h1 := HT0.out.size
    have h2 := HT1.out.size
    have h3 := HT2.out.size
    omega))
  have hgq : ge < w2.heap.size := by have := HT2.out.size; omega
  have HCE4 : Hid (∀ i, i < 4 → w4.cell? ⟨ge, 0 + i, none⟩ = some (.int .u8 ((be E 4).getD i 0 : Nat))) := fun i hi =>
    (World.cell?_of_block (HT4.out.block ge (by simp; omega) (by omega))).trans ((World.cell?_of_block (HT3.out.block ge hgq (fun h => h))).trans ((World.cell?_of_block (HT2.out.block ge hgl (fun h => h))).trans (HCE.out i hi)))
  have hwq : w.heap.size < w2.heap.size := by
    have h1 : w.heap.size + 1 = W0.heap.size := by rw [HW0.out]; simp
    have h2 := HT1.out.size
    have h3 := HT2.out.size
    omega
  have hgq2 : g < w2.heap.size := by have := HG.out; omega
  have hgeg : g ≠ ge := by have := HT0.out.size; have := HG.out; omega
  have HB4 := Hid.mk' (HB0.out.but ((HT1.out.trans HT2.out).trans HT3.out) (fun h => h) |>.but HT4.out (show ¬ (g = w2.heap.size) by omega))
  have HTW := Hid.mk' T04
  have hWQ := Hid.mk' hwq
  clear T04 HT4 HT3 HT2 HT1 HT0 HE0 HE1 HB0 HW0 HCE HQ3 hz hwq hge hgl
  generalize w2.heap.size = q at *
  obtain ⟨F, hF⟩ : ∃ F, F = be E 4 := ⟨_, rfl⟩
  have hFL : F.length = 4 := by rw [hF, be_len]
  rw [← hF] at HCE4
  have HF := Hid.mk' hF
  rw [parts zs k R] at HB4
  have l1 : (u8s (zs.take k)).length = k := by have := HL.out; simp [u8s]; omega
  have l2 : (u8s ((zs.drop k).take 4)).length = 4 := by have := HL.out; simp [u8s]; omega
  have l3 : (u8s ((zs.drop (k + 4)).take 12)).length = 12 := by have := HL.out; simp [u8s]; omega
  have hs1 := slice_low (b := g) (so := 0) (m := 256) (cap := cap) (n := k) (by omega) (by omega) w4
  rw [Nat.zero_add] at hs1
  have hcp := run_copy_blk (off := k) (dLen := 256 - k) (dCap := cap - k) (sCap := ce) (b := ge) (so := 0) (n := 4) (ys := F) 3 HB4.out l1 l2 (by rw [hFL]; exact (Nat.min_eq_left (by omega)).symm) (fun i hi => HCE4.out i (by omega))
  rw [List.take_of_length_le (l := F) (by omega), hFL] at hcp
  obtain ⟨W5, hW5⟩ : ∃ W5, W5 = w4.setRow g (u8s (zs.take k) ++ u8s F ++ (u8s ((zs.drop (k + 4)).take 12) ++ (u8s (zs.drop (k + 16)) ++ R))).toArray := ⟨_, rfl⟩
  rw [← hW5] at hcp
  have HT5 : Hid (But (· = g) w4 W5) := by rw [hW5]; exact (But.refl (· = g) w4).setRow (fun _ => rfl) _
  have HB5 : Hid (Blk W5 g 5 ((u8s (zs.take k) ++ u8s F) ++ u8s ((zs.drop (k + 4)).take 12) ++ (u8s (zs.drop (k + 16)) ++ R))) := by
    have := HB4.out.row (u8s (zs.take k) ++ u8s F ++ (u8s ((zs.drop (k + 4)).take 12) ++ (u8s (zs.drop (k + 16)) ++ R)))
    rw [← hW5] at this
    show Blk _ _ _ _
    rw [List.append_assoc _ _ (u8s (zs.drop (k + 16)) ++ R)]
    exact this
  have HQ5 := Hid.mk' (HQ4.out.but HT5.out (show ¬ (q = g) by omega))
  have HL1 := Hid.mk' l1
  have HL3 := Hid.mk' l3
  have HFL := Hid.mk' hFL
  clear hF l1 l2 l3 hFL hW5 HB4 HCE4 HQ4
  go_upto_region 5 with fail
  have h4 : (4 : Int) ≤ ((256 - k : Nat) : Int) := by omega
  have h5 : ¬ cap - k = 4 := by omega
  refine region_class (l := [_, _, _]) (o := _) (fun w' => But (fun _ => False) W5 w') (by kernel_rfl) (by kernel_rfl) (by kernel_rfl) rfl (by kernel_rfl) (by kernel_rfl) ((But.refl _ W5).drew) ?_
  refine class_val (.slice (some ⟨g, k, none⟩) (256 - k) (cap - k)) rfl (fun w' _ => by go_simp) ?_
  intro K hK; go_simp; refine hK _ ?_; clear hK K
  refine class_val (.slice (some ⟨g, k + 4, none⟩) (256 - k - 4) (cap - k - 4)) rfl (fun w' _ => by go_simp) ?_
  intro K hK; go_simp; refine hK _ ?_; clear hK K
  refine class_val (.slice (some ⟨q, 0, none⟩) 12 12) rfl (fun w' _ => by have hs := slice12 w' q; go_simp) ?_
  intro K hK; go_simp; refine hK _ ?_; clear hK K
  refine wpQuiet_nil ?_
  intro w6 hw6
  have hB6 := HB5.out.but hw6 (fun h => h)
  have hQ6 := HQ5.out.but hw6 (fun h => h)
  have hcp2 := run_copy_blk (off := k + 4) (dLen := 256 - k - 4) (dCap := cap - k - 4) (sCap := 12) (b := q) (so := 0) (n := 12) (ys := D) 3 hB6 (by have := HL1.out; have := HFL.out; simp only [List.length_append]; rw [HL1.out]; simp [u8s]; omega) HL3.out (by rw [HDL.out]; exact (Nat.min_eq_left (by omega)).symm) (fun i hi => by rw [hQ6.cell, Nat.zero_add, u8s_get _ i hi])
  rw [List.take_of_length_le (l := D) (by have := HDL.out; omega), HDL.out] at hcp2
  obtain ⟨W7, hW7⟩ : ∃ W7, W7 = w6.setRow g (u8s (zs.take k) ++ u8s F ++ u8s D ++ (u8s (zs.drop (k + 16)) ++ R)).toArray := ⟨_, rfl⟩
  rw [← hW7] at hcp2
  have HT7 : Hid (But (· = g) w6 W7) := by rw [hW7]; exact (But.refl (· = g) w6).setRow (fun _ => rfl) _
  have HB7 : Hid (Blk W7 g 5 (u8s (setE zs i ⟨E, B, S⟩) ++ R)) := by
    have := hB6.row (u8s (zs.take k) ++ u8s F ++ u8s D ++ (u8s (zs.drop (k + 16)) ++ R))
    rw [← hW7] at this
    show Blk _ _ _ _
    unfold setE ebs
    rw [← HK.out, ← HF.out, ← HD.out]
    simp only [u8s_append, List.append_assoc] at this ⊢
    exact this
  have HT6 := Hid.mk' hw6
  clear hW7 hB6 hQ6 hw6 HB5 HQ5
  go_wp2
  go_end0
  exact ⟨rfl, HB7.out, ((But.mono HTW.out (fun _ _ h => h.elim)).trans HT5.out |>.trans (HT6.out.mono (fun _ _ h => h.elim))).trans HT7.out⟩
end Go.Proofs.Ytffiphdbjohilaa
