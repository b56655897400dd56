/- The law's first and awake. -/
import Derived.Test.YtcikldklacgafaaRgWrite
namespace Go.Proofs.Ytcikldklacgafaa
open Go.RowKit

def S1 : Stt := ⟨1, 1, false, 5, 0, 1, 0, false, z32, z32⟩
def S2 : Stt := ⟨1, 1, false, 4, 0, 1, 0, false, z32, z32⟩
theorem S1_ok : S1.ok := ⟨by decide, by decide, by decide, by decide, by decide, by decide, rfl, rfl, by decide, by decide⟩
theorem S2_ok : S2.ok := ⟨by decide, by decide, by decide, by decide, by decide, by decide, rfl, rfl, by decide, by decide⟩
theorem s1_cells : scells S1 = (.int .i64 1 :: .int .i64 1 :: .bool false :: .int .u32 5 :: .int .u64 0 :: .int .u32 1 :: .int .i64 0 :: .bool false :: List.replicate 64 (.int .u8 0)) := by
  show (.int .i64 1 :: .int .i64 1 :: .bool false :: .int .u32 5 :: .int .u64 0 :: .int .u32 1 :: .int .i64 0 :: .bool false :: (u8s z32 ++ u8s z32) : List Value) = _
  rfl
theorem builtF (w : World) : (Instr.build 26 #[(0, .int .i64 1), (1, .int .i64 1), (5, .int .u32 1), (3, .int .u32 5)]).run Try.prog w = .ok (.agg (scells S1).toArray) w := by
  rw [s1_cells]
  exact run_build w _ _ _ (by kernel_rfl)
theorem mkRr {w0 w1 w2 : World} {own : Owner} {gd : Nat} {s : Dev} (h : DvN w0 w1 own gd s) (hb : Blk w2 w1.heap.size 57 (rcells gd Stt.zero)) (g : Grow w1 w2) : Rr (· < w0.heap.size) w0 w2 gd w1.heap.size s Stt.zero := by
  have h1 := h.grow.size
  refine ⟨⟨own, h.dv.grow g, h.dv.top _ (Nat.le_refl _), fun b hb => ?_⟩, by omega, fun _ h => h, hb, Stt.zero_ok, (h.grow.trans g).mono (fun _ _ h => h.elim)⟩
  by_cases hq : own b = .none
  · exact hq
  · exact absurd (h.new b hq) (by omega)
set_option maxRecDepth 100000 in
set_option maxHeartbeats 2000000 in
theorem first_any (w : World) : Calls Try.prog 27 #[] w fun e w' => e = .returned (.agg (scells S1).toArray) ∧ Grow w w' := by
  obtain ⟨Z, hZ⟩ : ∃ Z, Z = (scells Stt.zero).toArray := ⟨_, rfl⟩
  have hz : ∀ w, (zeroValue 26).run Try.prog w = .ok (.agg Z) w := fun w => by rw [hZ]; exact zeroVS w
  have HBU := Hid.mk' builtF
  obtain ⟨wz, hwz⟩ : ∃ wz, wz = w.alloc (.cells Z 26) := ⟨_, rfl⟩
  obtain ⟨gz, hgz⟩ : ∃ gz, gz = w.heap.size := ⟨_, rfl⟩
  have HG : Hid (Grow w wz) := by show Grow _ _; rw [hwz]; exact (But.refl _ w).alloc _
  have HBZ : Hid (Blk wz gz 26 (scells Stt.zero)) := by show Blk _ _ _ _; rw [hwz, hZ]; exact Blk.new hgz.symm
  have HWZ := Hid.mk' hwz
  have HGZ := Hid.mk' hgz
  have HL : Hid ((Try.prog.info? 26).map (·.size) = some (scells S1).length) := iSt
  clear hwz hgz hZ
  go_enter Try.func27, Try.ntmps27
  go_upto_region 1 with fail
  rw [← HWZ.out, ← HGZ.out]
  clear hz
  go_wp2_with (first
    | (refine wpList_build_run rfl _ [_, _, _, _] rfl [(0, .int .i64 1), (1, .int .i64 1), (5, .int .u32 1), (3, .int .u32 5)] rfl _ (HBU.out _) ?_)
    | (refine wpList_store_at rfl _ _ _ rfl gz 0 (scells S1) rfl rfl 26 [] (scells Stt.zero) [] (by simpa using HBZ.out) rfl rfl HL.out (scells_one _) ?_; intro w3 hb3 hbut3; rw [List.nil_append, List.append_nil] at hb3)
    | fail)
  refine bodyPost_ret (results_cell_row rfl _ _ gz _ _ _ _ rfl hb3 Try.underlying26 rfl HL.out) rfl ⟨rfl, HG.out.then hbut3 (fun b hb e => by have := HGZ.out; omega)⟩
theorem fresh_up (n : Nat) : (Dev.fresh n).up = true ∧ (Dev.fresh n).arm = 0 ∧ (Dev.fresh n).cnt = 0 ∧ (Dev.fresh n).wr = [] := ⟨rfl, rfl, rfl, rfl⟩
theorem fol1 : Stt.zero.follows S1 = true := by decide +kernel
theorem fol2 : S1.follows S2 = false := by decide +kernel
set_option maxRecDepth 100000 in
set_option maxHeartbeats 8000000 in
theorem awake_any (w : World) : Calls Try.prog 12 #[] w fun e w' => e = .returned (.bool true) ∧ Grow w w' := by
  have HNW := Hid.mk' (new_any w 1 (by decide) (by decide))
  have HS0 := Hid.mk' (fresh_up 1)
  generalize Dev.fresh 1 = s0 at HNW HS0
  obtain ⟨N1, hN1⟩ : ∃ N1, N1 = (scells S1).toArray := ⟨_, rfl⟩
  obtain ⟨N2, hN2⟩ : ∃ N2, N2 = (scells S2).toArray := ⟨_, rfl⟩
  obtain ⟨Z, hZ⟩ : ∃ Z, Z = (scells Stt.zero).toArray := ⟨_, rfl⟩
  have HN1 := Hid.mk' hN1
  have HN2 := Hid.mk' hN2
  have HZ := Hid.mk' hZ
  have HFI : Hid (∀ w, Calls Try.prog 27 #[] w fun e w' => e = .returned (.agg N1) ∧ Grow w w') := fun w => by rw [hN1]; exact first_any w
  have hz : ∀ w, (zeroValue 26).run Try.prog w = .ok (.agg Z) w := fun w => by rw [hZ]; exact zeroVS w
  have HL : Hid ((Try.prog.info? 26).map (·.size) = some (scells S1).length) := iSt
  clear hN1 hN2 hZ
  go_enter Try.func12, Try.ntmps12
  go_wp2_with fail
  refine Calls.mono HNW.out ?_
  rintro e w1 ⟨gd, own, rfl, hd1⟩
  have HD1 := Hid.mk' hd1
  clear hd1 HNW
  go_wp2_with fail
  refine Calls.mono (regnew_any gd w1) ?_
  rintro e w2 ⟨rfl, hb2, hg2⟩
  have HR2 := Hid.mk' (mkRr HD1.out hb2 hg2)
  obtain ⟨gr, hgr⟩ : ∃ gr, gr = w1.heap.size := ⟨_, rfl⟩
  rw [← hgr] at HR2 ⊢
  clear hb2 hg2 HD1 hgr
  go_wp2_with fail
  refine Calls.mono (HFI.out w2) ?_
  rintro e w3 ⟨rfl, hg3⟩
  have HR3 := Hid.mk' (HR2.out.then hg3)
  have HG23 := Hid.mk' hg3
  have HB3 : Hid (Blk (w3.alloc (.cells Z 26)) w3.heap.size 26 (scells Stt.zero)) := by show Blk _ _ _ _; rw [HZ.out]; exact Blk.new rfl
  clear hg3
  go_wp2_with (first
    | (refine wpList_store_at rfl _ _ _ rfl w3.heap.size 0 (scells S1) rfl (by show Value.agg N1 = _; rw [HN1.out]) 26 [] (scells Stt.zero) [] (by simpa using HB3.out) rfl rfl HL.out (scells_one _) ?_; intro w4 hb4 hbut4; rw [List.nil_append, List.append_nil] at hb4)
    | fail)
  have HG4 : Hid (Grow w3 w4) := ((But.refl _ w3).alloc _).then hbut4 (fun b hb e => by omega)
  obtain ⟨g5, hg5⟩ : ∃ g5, g5 = w3.heap.size := ⟨_, rfl⟩
  have HG5 := Hid.mk' hg5
  rw [← hg5] at hb4 ⊢
  have HB4 := Hid.mk' hb4
  clear hb4 hbut4 hg5 HB3
  refine Calls.mono (HFI.out w4) ?_
  rintro e w5 ⟨rfl, hg5'⟩
  have HG5' := Hid.mk' hg5'
  have HB5 : Hid (Blk (w5.alloc (.cells Z 26)) w5.heap.size 26 (scells Stt.zero)) := by show Blk _ _ _ _; rw [HZ.out]; exact Blk.new rfl
  clear hg5'
  go_upto_region 5 with (first
    | (refine wpList_store_at rfl _ _ _ rfl w5.heap.size 0 (scells S1) rfl (by show Value.agg N1 = _; rw [HN1.out]) 26 [] (scells Stt.zero) [] (by simpa using HB5.out) rfl rfl HL.out (scells_one _) ?_; intro w6 hb6 hbut6; rw [List.nil_append, List.append_nil] at hb6)
    | fail)
  have HG6 : Hid (Grow w5 w6) := ((But.refl _ w5).alloc _).then hbut6 (fun b hb e => by omega)
  obtain ⟨g6, hg6⟩ : ∃ g6, g6 = w5.heap.size := ⟨_, rfl⟩
  have HGE6 := Hid.mk' hg6
  rw [← hg6] at hb6 ⊢
  have HB6 := Hid.mk' hb6
  have f6 : w6.frozen? ⟨g6, 3, none⟩ = false := hb6.free 3
  have c6 : w6.cell? ⟨g6, 3, none⟩ = some (.int .u32 5) := hb6.cell 3
  clear hb6 hbut6 hg6 HB5 hz
  go_upto_region 6 with fail
  obtain ⟨w7, hw7⟩ : ∃ w7, w7 = w6.setCell ⟨g6, 3, none⟩ (.int .u32 4) := ⟨_, rfl⟩
  rw [← hw7]
  have hb7 : Blk w7 g6 26 (scells S2) := by rw [hw7]; exact HB6.out.set 3 (.int .u32 4)
  have hg7 : Grow w5 w7 := by
    rw [hw7]
    exact HG6.out.then (But.set1 w6 g6 3 (.int .u32 4)) (fun b hb e => by have := HGE6.out; omega)
  have hb47 : Blk w7 g5 26 (scells S1) := by
    have h5 := HB4.out.but HG5'.out (fun h => h)
    exact h5.but hg7 (fun h => h)
  have hg37 : Grow w3 w7 := (HG4.out.trans HG5'.out).trans hg7
  have HR7 := Hid.mk' (HR3.out.add hg37)
  have HF5 : Hid ((fun b => b < w.heap.size ∨ (w3.heap.size ≤ b ∧ b < w7.heap.size)) g5) := .inr ⟨Nat.le_of_eq HG5.out.symm, hb47.lt⟩
  have HF6 : Hid ((fun b => b < w.heap.size ∨ (w3.heap.size ≤ b ∧ b < w7.heap.size)) g6) := .inr ⟨by have := HGE6.out; have := HG4.out.size; have := HG5'.out.size; omega, hb7.lt⟩
  have HGW : Hid (∀ w', But (fun b => ¬ (fun b => b < w.heap.size ∨ (w3.heap.size ≤ b ∧ b < w7.heap.size)) b) w7 w' → Grow w w') := fun w' k => by
    have h5 : But (fun b => ¬ b < w.heap.size) w w7 := (HR3.out.but).trans (hg37.mono (fun _ _ h => h.elim))
    exact (h5.then (S := fun b => ¬ b < w.heap.size) (k.mono (fun b _ hn hf => hn (.inl hf))) (fun _ _ h => h)).mono (fun b hb hn => hn hb)
  generalize (fun b => b < w.heap.size ∨ (w3.heap.size ≤ b ∧ b < w7.heap.size)) = G at HR7 HF5 HF6 HGW
  have HB5 := Hid.mk' hb47
  have HB7 := Hid.mk' hb7
  have HW1 : Hid (∀ w', Grow w7 w' → Calls Try.prog 17 #[.pointer (some ⟨gr, 0, none⟩), .agg N1] w' fun e w'' => e = .returned (.int .i64 0) ∧ Rr G w7 w'' gd gr s0.acc S1) := fun w' k => by
    have h5 := regwrite_any (HR7.out.then k) S1_ok (by rw [HS0.out.2.2.1]; decide) (by rw [HS0.out.2.1]; decide)
    rw [HN1.out]
    unfold wrcode wrdev wrheld at h5
    rw [fol1, HS0.out.1, HS0.out.2.1] at h5
    exact h5
  have HW2 : Hid (∀ w', Rr G w7 w' gd gr s0.acc S1 → Calls Try.prog 17 #[.pointer (some ⟨gr, 0, none⟩), .agg N2] w' fun e w'' => e = .returned (.int .i64 3) ∧ Rr G w7 w'' gd gr s0.acc S1) := fun w' h' => by
    have h5 := regwrite_any h' S2_ok (by show s0.cnt + 1 < _; rw [HS0.out.2.2.1]; decide) (by show s0.arm - 1 ≤ _; rw [HS0.out.2.1]; decide)
    rw [HN2.out]
    unfold wrcode wrdev wrheld at h5
    rw [fol2, show s0.acc.up = true by show (!(s0.arm == 1)) = true; rw [HS0.out.2.1]; rfl] at h5
    exact h5
  have HRD : Hid (∀ w', Rr G w7 w' gd gr s0.acc S1 → Calls Try.prog 16 #[.pointer (some ⟨gr, 0, none⟩)] w' fun e w'' => e = .returned (.agg N1) ∧ Grow w' w'') := fun w' h' => by
    rw [HN1.out]
    exact regread_any S1_ok h'.blk
  have HEQ : Hid (∀ w, (Op.equalIn 10000 26 (.agg N1) (.agg N1)).run Try.prog w = .ok true w) := fun w => by
    have := equalS S1_ok S1_ok w
    rw [same_refl] at this
    rw [HN1.out]; exact this
  clear hw7 hb7 hg7 hb47 hg37 f6 c6
  refine region_chain [([0, 1, 2, 3, 4], 5), ([6, 7, 8, 9, 10], 11)] [12, 13, 14, 15, 16, 17, 18, 19, 20] (But (fun b => ¬ G b) w7) (Grow w7) (by kernel_rfl) (by kernel_rfl) (fun _ _ h k => h.trans k) (fun _ h => h.mono (fun _ _ h => h.elim)) ((But.refl _ w7).drew) ?_
  intro ι hne X hX
  iterate 4 (refine still_step rfl (fun K hK => ?_); go_simp; refine hK _ ?_; clear hK K)
  refine still_val rfl (.agg N1) rfl (fun x => by rw [HN1.out]; exact exec_ld Try.underlying26 rfl iSt (HB5.out.but (hX x) (fun n => n HF5.out)).cells0 rfl rfl) ?_
  intro K hK; go_simp; refine hK _ ?_; clear hK K
  refine still_nil ?_
  clear hX hne
  refine turn_call rfl rfl (fun v w' => v = .int .i64 0 ∧ Rr G w7 w' gd gr s0.acc S1) (fun _ => But (fun b => ¬ G b) w7) (fun _ _ _ h k => ⟨h.1, h.2.then k⟩) (fun _ _ h => h.2.but) (.inr (fun _ _ h => h)) 17 #[.pointer (some ⟨gr, 0, none⟩), .agg N1] (fun _ => by kernel_rfl) ?_ ?_
  · intro wx hx
    refine Calls.mono (HW1.out _ hx) ?_
    rintro e wy ⟨rfl, h2⟩
    exact ⟨_, rfl, rfl, h2⟩
  rintro v ⟨wq, rfl, -⟩ Y hY
  clear wq
  go_simp
  refine hY _ ?_
  clear hY Y
  intro ι hne X hX
  iterate 4 (refine still_step rfl (fun K hK => ?_); go_simp; refine hK _ ?_; clear hK K)
  refine still_val rfl (.agg N2) rfl (fun x => by rw [HN2.out]; exact exec_ld Try.underlying26 rfl iSt (HB7.out.but (hX x) (fun n => n HF6.out)).cells0 rfl rfl) ?_
  intro K hK; go_simp; refine hK _ ?_; clear hK K
  refine still_nil ?_
  clear hX hne
  refine turn_call rfl rfl (fun v w' => v = .int .i64 3 ∧ Rr G w7 w' gd gr s0.acc S1) (fun _ w' => Rr G w7 w' gd gr s0.acc S1) (fun _ _ _ h k => ⟨h.1, h.2.then k⟩) (fun _ _ h => h.2) (.inr (fun _ _ h => h.but)) 17 #[.pointer (some ⟨gr, 0, none⟩), .agg N2] (fun _ => by kernel_rfl) ?_ ?_
  · rintro wx ⟨-, hx⟩
    refine Calls.mono (HW2.out _ hx) ?_
    rintro e wy ⟨rfl, h2⟩
    exact ⟨_, rfl, rfl, h2⟩
  rintro v ⟨wq, rfl, -⟩ Y hY
  clear wq
  go_simp
  refine hY _ ?_
  clear hY Y
  intro ι hne X hX
  iterate 4 (refine still_step rfl (fun K hK => ?_); go_simp; refine hK _ ?_; clear hK K)
  refine still_call rfl (.agg N1) 16 #[.pointer (some ⟨gr, 0, none⟩)] rfl (fun x => by kernel_rfl) (fun x => HRD.out _ (hX x)) ?_
  intro K hK; go_simp; refine hK _ ?_; clear hK K
  refine still_val rfl (.agg N1) rfl (fun x => by rw [HN1.out]; exact exec_ld Try.underlying26 rfl iSt (HB5.out.but (hX x).but (fun n => n HF5.out)).cells0 rfl rfl) ?_
  intro K hK; go_simp; refine hK _ ?_; clear hK K
  refine still_val rfl (.bool true) rfl (fun x => exec_eqA rfl rfl rfl (by kernel_rfl) (HEQ.out _)) ?_
  intro K hK; go_simp; refine hK _ ?_; clear hK K
  iterate 2 (refine still_step rfl (fun K hK => ?_); go_simp; refine hK _ ?_; clear hK K)
  refine still_nil ?_
  clear hX hne
  rintro w8 ⟨-, h8⟩
  have HE := Hid.mk' (HGW.out _ h8.but)
  clear h8
  go_wp2
  go_ret
  exact ⟨rfl, HE.out⟩
end Go.Proofs.Ytcikldklacgafaa
