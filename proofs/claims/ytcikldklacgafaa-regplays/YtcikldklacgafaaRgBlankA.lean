/- States held against nothing, and against each other: the program's blank, layoutOf, sinks; the reference's Blank. -/
import Derived.Test.YtcikldklacgafaaRgRight
import Derived.Test.YtcikldklacgafaaLoads
namespace Go.Proofs.Ytcikldklacgafaa
open Go.RowKit

theorem blank_iff {S : Stt} : S.blank = true ↔ S = Stt.zero := same_iff
theorem blank_no {S : Stt} (h : S ≠ Stt.zero) : S.blank = false := by
  cases hr : S.blank
  · rfl
  · exact absurd (blank_iff.1 hr) h
theorem zeroS : scells Stt.zero = (.int .i64 0 :: .int .i64 0 :: .bool false :: .int .u32 0 :: .int .u64 0 :: .int .u32 0 :: .int .i64 0 :: .bool false :: List.replicate 64 (.int .u8 0)) := by
  show (.int .i64 0 :: .int .i64 0 :: .bool false :: .int .u32 0 :: .int .u64 0 :: .int .u32 0 :: .int .i64 0 :: .bool false :: (u8s z32 ++ u8s z32) : List Value) = _
  rfl
theorem builtZ (w : World) : (Instr.build 26 #[]).run Try.prog w = .ok (.agg (scells Stt.zero).toArray) w := by
  rw [zeroS]
  exact run_build w _ _ _ (by kernel_rfl)
theorem i32a : (Try.prog.info? 24).map (·.size) = some 32 := by kernel_rfl
section
variable {S A B : Stt}
set_option maxRecDepth 100000 in
set_option maxHeartbeats 4000000 in
theorem blank_any (hS : S.ok) (w : World) : Calls Try.prog 24 #[.agg (scells S).toArray] w fun e w' => e = .returned (.bool S.blank) ∧ Grow w w' := by
  obtain ⟨wb, gp, hbx⟩ := box_st w S
  have HW := Hid.mk' hbx.ew
  have HGP := Hid.mk' hbx.eg
  have HG := Hid.mk' hbx.grow
  have HB := Hid.mk' hbx.blk
  have HL : Hid ((Try.prog.info? 26).map (·.size) = some (scells S).length) := by rw [scells_len hS]; exact iSt
  obtain ⟨N, hN⟩ : ∃ N, N = (scells S).toArray := ⟨_, rfl⟩
  obtain ⟨Z, hZ⟩ : ∃ Z, Z = (scells Stt.zero).toArray := ⟨_, rfl⟩
  obtain ⟨b, hb⟩ : ∃ b, b = S.blank := ⟨_, rfl⟩
  have HEQ : Hid ((Op.equalIn 10000 26 (.agg N) (.agg Z)).run Try.prog wb = .ok b wb) := by show _ = _; rw [hN, hZ, hb]; exact equalS hS Stt.zero_ok wb
  have HBZ : Hid ((Instr.build 26 #[]).run Try.prog wb = .ok (.agg Z) wb) := by rw [hZ]; exact builtZ wb
  have HN := Hid.mk' hN
  rw [← hN] at HW ⊢
  rw [← hb]
  clear hbx hN hZ hb hS
  go_enter Try.func24, Try.ntmps24
  go_upto_region 1 with fail
  rw [← HW.out, ← HGP.out]
  clear HW HGP
  go_wp2_with (first
    | (refine wpList_load_cells rfl _ _ rfl ⟨gp, 0, none⟩ rfl (scells S) _ HB.out.cells0 Try.underlying26 rfl HL.out ?_; rw [← HN.out])
    | (refine wpList_build_run rfl _ [] rfl [] rfl _ HBZ.out ?_)
    | (refine wpList_run rfl (exec_eqA rfl rfl rfl (by kernel_rfl) HEQ.out) ?_)
    | fail)
  go_ret
  exact ⟨rfl, HG.out⟩
/-- Two states in boxes. -/
structure Box2 (w : World) (A B : Stt) (wb : World) (gp gq : Nat) : Prop where
  ew : wb = (w.alloc (.cells (scells A).toArray 26)).alloc (.cells (scells B).toArray 26)
  eg : gp = w.heap.size
  eq : gq = w.heap.size + 1
  grow : Grow w wb
  ba : Blk wb gp 26 (scells A)
  bb : Blk wb gq 26 (scells B)
theorem box2_st (w : World) (A B : Stt) : ∃ wb gp gq, Box2 w A B wb gp gq := by
  have h1 : Grow w (w.alloc (.cells (scells A).toArray 26)) := (But.refl _ w).alloc _
  have h2 : Grow (w.alloc (.cells (scells A).toArray 26)) ((w.alloc (.cells (scells A).toArray 26)).alloc (.cells (scells B).toArray 26)) := (But.refl _ _).alloc _
  exact ⟨_, _, _, rfl, rfl, rfl, h1.trans h2, (Blk.new (L := scells A) rfl).but h2 (fun h => h), Blk.new (by simp)⟩
set_option maxRecDepth 100000 in
theorem sinks_any (w : World) : Calls Try.prog 26 #[.agg (scells A).toArray, .agg (scells B).toArray] w fun e w' => e = .returned (.bool (A.sinks B)) ∧ Grow w w' := by
  obtain ⟨wb, gp, gq, hbx⟩ := box2_st w A B
  have HW := Hid.mk' hbx.ew
  have HGP := Hid.mk' hbx.eg
  have HGQ := Hid.mk' hbx.eq
  have HG := Hid.mk' hbx.grow
  have a3 : wb.cell? ⟨gp, 3, none⟩ = some (.int .u32 A.boot) := hbx.ba.cell 3
  have a4 : wb.cell? ⟨gp, 4, none⟩ = some (.int .u64 A.version) := hbx.ba.cell 4
  have a5 : wb.cell? ⟨gp, 5, none⟩ = some (.int .u32 A.epoch) := hbx.ba.cell 5
  have b3 : wb.cell? ⟨gq, 3, none⟩ = some (.int .u32 B.boot) := hbx.bb.cell 3
  have b4 : wb.cell? ⟨gq, 4, none⟩ = some (.int .u64 B.version) := hbx.bb.cell 4
  have b5 : wb.cell? ⟨gq, 5, none⟩ = some (.int .u32 B.epoch) := hbx.bb.cell 5
  have HR : Hid (A.sinks B = (decide (B.boot < A.boot) || (decide (B.version < A.version) || decide (B.epoch < A.epoch)))) := rfl
  obtain ⟨N, hN⟩ : ∃ N, N = (scells A).toArray := ⟨_, rfl⟩
  obtain ⟨M, hM⟩ : ∃ M, M = (scells B).toArray := ⟨_, rfl⟩
  rw [← hN, ← hM] at HW ⊢
  clear hbx hN hM
  by_cases h1 : B.boot < A.boot
  · rw [decide_eq_true h1] at HR
    go_enter Try.func26, Try.ntmps26
    go_upto_region 1 with fail
    rw [← HW.out, ← HGQ.out, ← HGP.out]
    go_wp2
    go_ret
    exact ⟨by rw [HR.out]; rfl, HG.out⟩
  rw [decide_eq_false h1] at HR
  by_cases h2 : B.version < A.version
  · rw [decide_eq_true h2] at HR
    go_enter Try.func26, Try.ntmps26
    go_upto_region 1 with fail
    rw [← HW.out, ← HGQ.out, ← HGP.out]
    go_wp2
    go_ret
    exact ⟨by rw [HR.out]; rfl, HG.out⟩
  rw [decide_eq_false h2] at HR
  go_enter Try.func26, Try.ntmps26
  go_upto_region 1 with fail
  rw [← HW.out, ← HGQ.out, ← HGP.out]
  go_wp2
  go_ret
  exact ⟨by rw [HR.out]; rfl, HG.out⟩
def lcells (S : Stt) : List Value := [.int .i64 S.pages, .int .i64 S.budget, .bool S.wide]
theorem iLay : (Try.prog.info? 48).map (·.size) = some 3 := by kernel_rfl
theorem zLay (w : World) : (zeroValue 48).run Try.prog w = .ok (.agg #[.int .i64 0, .int .i64 0, .bool false]) w := by kernel_rfl
theorem builtL (p q : Int) (b : Bool) (w : World) : (Instr.build 48 #[(0, .int .i64 p), (1, .int .i64 q), (2, .bool b)]).run Try.prog w = .ok (.agg #[.int .i64 p, .int .i64 q, .bool b]) w := run_build w _ _ _ (by kernel_rfl)
set_option maxRecDepth 100000 in
theorem layout_any (w : World) : Calls Try.prog 25 #[.agg (scells S).toArray] w fun e w' => e = .returned (.agg (lcells S).toArray) ∧ Grow w w' := by
  have hz := zLay
  obtain ⟨wa, gp, hbx⟩ := box_st w S
  obtain ⟨wb, hwb⟩ : ∃ wb, wb = wa.alloc (.cells #[.int .i64 0, .int .i64 0, .bool false] 48) := ⟨_, rfl⟩
  obtain ⟨gz, hgz⟩ : ∃ gz, gz = wa.heap.size := ⟨_, rfl⟩
  have hg2 : Grow wa wb := by rw [hwb]; exact (But.refl _ wa).alloc _
  have HW := Hid.mk' hbx.ew
  have HWB := Hid.mk' hwb
  have HGP := Hid.mk' hbx.eg
  have HGZ : Hid (gz = w.heap.size + 1) := by show _ = _; rw [hgz, hbx.ew]; simp
  have HG : Hid (Grow w wb) := hbx.grow.trans hg2
  have HBZ : Hid (Blk wb gz 48 [.int .i64 0, .int .i64 0, .bool false]) := by show Blk _ _ _ _; rw [hwb]; exact Blk.new (L := [.int .i64 0, .int .i64 0, .bool false]) hgz.symm
  have hb := hbx.blk.but hg2 (fun h => h)
  have c0 : wb.cell? ⟨gp, 0, none⟩ = some (.int .i64 S.pages) := hb.cell 0
  have c1 : wb.cell? ⟨gp, 1, none⟩ = some (.int .i64 S.budget) := hb.cell 1
  have c2 : wb.cell? ⟨gp, 2, none⟩ = some (.bool S.wide) := hb.cell 2
  obtain ⟨N, hN⟩ : ∃ N, N = (scells S).toArray := ⟨_, rfl⟩
  rw [← hN] at HW ⊢
  clear hbx hN hwb hgz hg2 hb
  go_enter Try.func25, Try.ntmps25
  go_upto_region 1 with fail
  rw [← HW.out, ← HWB.out, ← HGZ.out, ← HGP.out]
  clear hz
  go_wp2_with (first
    | (refine wpList_build_run rfl _ [_, _, _] rfl [(0, .int .i64 S.pages), (1, .int .i64 S.budget), (2, .bool S.wide)] rfl _ (builtL _ _ _ _) ?_)
    | (refine wpList_store_at rfl _ _ _ rfl gz 0 (lcells S) rfl rfl 48 [] [.int .i64 0, .int .i64 0, .bool false] [] (by simpa using HBZ.out) rfl rfl iLay (fun u hu => by
        unfold lcells at hu
        rcases List.mem_cons.1 hu with rfl | hu
        · rfl
        rcases List.mem_cons.1 hu with rfl | hu
        · rfl
        · rw [show u = .bool S.wide by simpa using hu]; rfl) ?_; intro w3 hb3 hbut3; rw [List.nil_append, List.append_nil] at hb3)
    | fail)
  refine bodyPost_ret (results_cell_row rfl _ _ gz _ _ _ _ rfl hb3 Try.underlying48 rfl iLay) rfl ⟨rfl, HG.out.then hbut3 (fun b hb e => by have := HGZ.out; omega)⟩
theorem equalL (A B : Stt) (w : World) : (Op.equalIn 10000 48 (.agg (lcells A).toArray) (.agg (lcells B).toArray)).run Try.prog w = .ok (A.lay B) w := by
  rw [run_equalIn_struct w 9999 48 _ _ (by kernel_rfl) (by kernel_rfl)]
  have i3 : (isAgg 3).run Try.prog w = .ok false w := by kernel_rfl
  have i4 : (isAgg 4).run Try.prog w = .ok false w := by kernel_rfl
  have hf : (Try.prog.fieldsOf 48).toList = [⟨ "pages", 3, 0, false, "", "thimble/reg", 0⟩, ⟨ "budget", 3, 1, false, "", "thimble/reg", 8⟩, ⟨ "wide", 4, 2, false, "", "thimble/reg", 16⟩] := by kernel_rfl
  rw [hf]
  unfold Stt.lay
  refine eqf_cons (by decide) (part_one i3 rfl) (part_one i3 rfl) (run_equalIn_int w 9998 3 .i64 .i64 _ _ Try.underlying3) ?_
  refine eqf_cons (by decide) (part_one i3 rfl) (part_one i3 rfl) (run_equalIn_int w 9998 3 .i64 .i64 _ _ Try.underlying3) ?_
  refine eqf_cons (by decide) (part_one i4 rfl) (part_one i4 rfl) (run_equalIn_bool' w 9998 4 _ _ Try.underlying4) ?_
  simp [Op.eqFields]
end
end Go.Proofs.Ytcikldklacgafaa
