/- The reference's Blank. -/
import Derived.Test.YtcikldklacgafaaRgBlankA
namespace Go.Proofs.Ytcikldklacgafaa
open Go.RowKit

section
variable {S : Stt}
theorem root_at {S : Stt} (h : S.root.length = 32) {j : Nat} {u : Value} (hj : (u8s S.root)[j]? = some u) : (scells S)[8 + j]? = some u := by
  have hl : j < (u8s S.root).length := by
    rcases Nat.lt_or_ge j (u8s S.root).length with h | h
    · exact h
    · rw [List.getElem?_eq_none h] at hj; cases hj
  have _ := h
  unfold scells
  rw [show 8 + j = j + 1 + 1 + 1 + 1 + 1 + 1 + 1 + 1 by omega]
  simp only [List.getElem?_cons_succ]
  rw [List.getElem?_append_left hl]
  exact hj
theorem mark_at {S : Stt} (h : S.root.length = 32) {j : Nat} {u : Value} (hj : (u8s S.mark)[j]? = some u) : (scells S)[40 + j]? = some u := by
  unfold scells
  rw [show 40 + j = (32 + j) + 1 + 1 + 1 + 1 + 1 + 1 + 1 + 1 by omega]
  simp only [List.getElem?_cons_succ]
  rw [List.getElem?_append_right (by rw [u8s_len, h]; omega), u8s_len, h, Nat.add_sub_cancel_left]
  exact hj
set_option maxRecDepth 100000 in
set_option maxHeartbeats 4000000 in
theorem rblank_any (hS : S.ok) (w : World) : Calls Try.prog 15 #[.agg (scells S).toArray] w fun e w' => e = .returned (.bool S.blank) ∧ Grow w w' := by
  obtain ⟨wb, gp, hbx⟩ := box_st w S
  have HW := Hid.mk' hbx.ew
  have HGP := Hid.mk' hbx.eg
  have HG := Hid.mk' hbx.grow
  have HB := Hid.mk' hbx.blk
  have HRL := Hid.mk' hS.root
  have HML := Hid.mk' hS.mark
  obtain ⟨Z, hZ⟩ : ∃ Z, Z = (u8s z32).toArray := ⟨_, rfl⟩
  have hz : ∀ w, (zeroValue 24).run Try.prog w = .ok (.agg Z) w := fun w => by rw [hZ]; kernel_rfl
  have HBU : Hid (∀ w, (Instr.build 24 #[]).run Try.prog w = .ok (.agg Z) w) := fun w => by rw [hZ]; exact run_build w _ _ _ (by kernel_rfl)
  have HZ := Hid.mk' hZ
  obtain ⟨wz, hwz⟩ : ∃ wz, wz = wb.alloc (.cells Z 24) := ⟨_, rfl⟩
  obtain ⟨gz, hgz⟩ : ∃ gz, gz = wb.heap.size := ⟨_, rfl⟩
  have HWZ := Hid.mk' hwz
  have HGZ := Hid.mk' hgz
  have HG2 : Hid (Grow wb wz) := by show Grow _ _; rw [hwz]; exact (But.refl _ wb).alloc _
  have HBZ : Hid (Blk wz gz 24 (u8s z32)) := by show Blk _ _ _ _; rw [hwz, hZ]; exact Blk.new hgz.symm
  obtain ⟨N, hN⟩ : ∃ N, N = (scells S).toArray := ⟨_, rfl⟩
  rw [← hN] at HW ⊢
  have HNO := Hid.mk' (blank_no (S := S))
  have HYES := Hid.mk' (blank_iff (S := S)).2
  have HEX : Hid (∀ p b : List Nat, p.length = 32 → b.length = 32 → ∀ w, (Op.equalIn 10000 24 (.agg (u8s p).toArray) (.agg (u8s b).toArray)).run Try.prog w = .ok (decide (p = b)) w) := fun p b h1 h2 w => equalN Try.underlying24 p b h1 h2 w
  clear hbx hN hS hZ hwz hgz
  by_cases z0 : S.pages = 0
  case neg =>
    have HF := Hid.mk' (HNO.out (fun e => z0 (by rw [e]; rfl)))
    have n0 : (S.pages == 0) = false := by simpa using z0
    go_enter Try.func15, Try.ntmps15
    go_upto_region 1 with fail
    rw [← HW.out, ← HGP.out]
    go_wp2_with (first
      | (refine wpList_build_run rfl _ [] rfl [] rfl _ (HBU.out _) ?_)
      | (rw [← HWZ.out, ← HGZ.out]; refine wpList_store_at rfl _ _ _ rfl gz 0 (u8s z32) rfl (by show Value.agg Z = _; rw [HZ.out]) 24 [] (u8s z32) [] (by simpa using HBZ.out) rfl rfl i32a (u8s_one _) ?_; intro w3 hb3 hbut3; rw [List.nil_append, List.append_nil] at hb3; have HB3 := Hid.mk' hb3; have HG3 : Hid (Grow wb w3) := HG2.out.then hbut3 (fun b hb e => by have := HGZ.out; omega); clear hb3 hbut3 hz; have c0 : w3.cell? ⟨gp, 0, none⟩ = some (.int .i64 S.pages) := (HB.out.but HG3.out (fun h => h)).cell 0)
      | fail)
    go_ret
    exact ⟨by rw [HF.out]; rfl, HG.out.trans HG3.out⟩
  by_cases z1 : S.budget = 0
  case neg =>
    have HF := Hid.mk' (HNO.out (fun e => z1 (by rw [e]; rfl)))
    have n1 : (S.budget == 0) = false := by simpa using z1
    go_enter Try.func15, Try.ntmps15
    go_upto_region 1 with fail
    rw [← HW.out, ← HGP.out]
    go_wp2_with (first
      | (refine wpList_build_run rfl _ [] rfl [] rfl _ (HBU.out _) ?_)
      | (rw [← HWZ.out, ← HGZ.out]; refine wpList_store_at rfl _ _ _ rfl gz 0 (u8s z32) rfl (by show Value.agg Z = _; rw [HZ.out]) 24 [] (u8s z32) [] (by simpa using HBZ.out) rfl rfl i32a (u8s_one _) ?_; intro w3 hb3 hbut3; rw [List.nil_append, List.append_nil] at hb3; have HB3 := Hid.mk' hb3; have HG3 : Hid (Grow wb w3) := HG2.out.then hbut3 (fun b hb e => by have := HGZ.out; omega); clear hb3 hbut3 hz; have c0 : w3.cell? ⟨gp, 0, none⟩ = some (.int .i64 0) := (by have := (HB.out.but HG3.out (fun h => h)).cell 0; rw [show (scells S)[0]? = some (.int .i64 S.pages) from rfl, z0] at this; exact this); have c1 : w3.cell? ⟨gp, 1, none⟩ = some (.int .i64 S.budget) := (HB.out.but HG3.out (fun h => h)).cell 1)
      | fail)
    go_ret
    exact ⟨by rw [HF.out]; rfl, HG.out.trans HG3.out⟩
  cases z2 : S.wide
  case true =>
    have HF := Hid.mk' (HNO.out (fun e => by rw [e] at z2; cases z2))
    go_enter Try.func15, Try.ntmps15
    go_upto_region 1 with fail
    rw [← HW.out, ← HGP.out]
    go_wp2_with (first
      | (refine wpList_build_run rfl _ [] rfl [] rfl _ (HBU.out _) ?_)
      | (rw [← HWZ.out, ← HGZ.out]; refine wpList_store_at rfl _ _ _ rfl gz 0 (u8s z32) rfl (by show Value.agg Z = _; rw [HZ.out]) 24 [] (u8s z32) [] (by simpa using HBZ.out) rfl rfl i32a (u8s_one _) ?_; intro w3 hb3 hbut3; rw [List.nil_append, List.append_nil] at hb3; have HB3 := Hid.mk' hb3; have HG3 : Hid (Grow wb w3) := HG2.out.then hbut3 (fun b hb e => by have := HGZ.out; omega); clear hb3 hbut3 hz; have c0 : w3.cell? ⟨gp, 0, none⟩ = some (.int .i64 0) := (by have := (HB.out.but HG3.out (fun h => h)).cell 0; rw [show (scells S)[0]? = some (.int .i64 S.pages) from rfl, z0] at this; exact this); have c1 : w3.cell? ⟨gp, 1, none⟩ = some (.int .i64 0) := (by have := (HB.out.but HG3.out (fun h => h)).cell 1; rw [show (scells S)[1]? = some (.int .i64 S.budget) from rfl, z1] at this; exact this); have c2 : w3.cell? ⟨gp, 2, none⟩ = some (.bool true) := (by have := (HB.out.but HG3.out (fun h => h)).cell 2; rw [show (scells S)[2]? = some (.bool S.wide) from rfl, z2] at this; exact this))
      | fail)
    go_ret
    exact ⟨by rw [HF.out]; rfl, HG.out.trans HG3.out⟩
  by_cases z3 : S.boot = 0
  case neg =>
    have HF := Hid.mk' (HNO.out (fun e => z3 (by rw [e]; rfl)))
    have n3 : (S.boot == 0) = false := by simpa using z3
    go_enter Try.func15, Try.ntmps15
    go_upto_region 1 with fail
    rw [← HW.out, ← HGP.out]
    go_wp2_with (first
      | (refine wpList_build_run rfl _ [] rfl [] rfl _ (HBU.out _) ?_)
      | (rw [← HWZ.out, ← HGZ.out]; refine wpList_store_at rfl _ _ _ rfl gz 0 (u8s z32) rfl (by show Value.agg Z = _; rw [HZ.out]) 24 [] (u8s z32) [] (by simpa using HBZ.out) rfl rfl i32a (u8s_one _) ?_; intro w3 hb3 hbut3; rw [List.nil_append, List.append_nil] at hb3; have HB3 := Hid.mk' hb3; have HG3 : Hid (Grow wb w3) := HG2.out.then hbut3 (fun b hb e => by have := HGZ.out; omega); clear hb3 hbut3 hz; have c0 : w3.cell? ⟨gp, 0, none⟩ = some (.int .i64 0) := (by have := (HB.out.but HG3.out (fun h => h)).cell 0; rw [show (scells S)[0]? = some (.int .i64 S.pages) from rfl, z0] at this; exact this); have c1 : w3.cell? ⟨gp, 1, none⟩ = some (.int .i64 0) := (by have := (HB.out.but HG3.out (fun h => h)).cell 1; rw [show (scells S)[1]? = some (.int .i64 S.budget) from rfl, z1] at this; exact this); have c2 : w3.cell? ⟨gp, 2, none⟩ = some (.bool false) := (by have := (HB.out.but HG3.out (fun h => h)).cell 2; rw [show (scells S)[2]? = some (.bool S.wide) from rfl, z2] at this; exact this); have c3 : w3.cell? ⟨gp, 3, none⟩ = some (.int .u32 S.boot) := (HB.out.but HG3.out (fun h => h)).cell 3)
      | fail)
    go_ret
    exact ⟨by rw [HF.out]; rfl, HG.out.trans HG3.out⟩
  by_cases z4 : S.version = 0
  case neg =>
    have HF := Hid.mk' (HNO.out (fun e => z4 (by rw [e]; rfl)))
    have n4 : (S.version == 0) = false := by simpa using z4
    go_enter Try.func15, Try.ntmps15
    go_upto_region 1 with fail
    rw [← HW.out, ← HGP.out]
    go_wp2_with (first
      | (refine wpList_build_run rfl _ [] rfl [] rfl _ (HBU.out _) ?_)
      | (rw [← HWZ.out, ← HGZ.out]; refine wpList_store_at rfl _ _ _ rfl gz 0 (u8s z32) rfl (by show Value.agg Z = _; rw [HZ.out]) 24 [] (u8s z32) [] (by simpa using HBZ.out) rfl rfl i32a (u8s_one _) ?_; intro w3 hb3 hbut3; rw [List.nil_append, List.append_nil] at hb3; have HB3 := Hid.mk' hb3; have HG3 : Hid (Grow wb w3) := HG2.out.then hbut3 (fun b hb e => by have := HGZ.out; omega); clear hb3 hbut3 hz; have c0 : w3.cell? ⟨gp, 0, none⟩ = some (.int .i64 0) := (by have := (HB.out.but HG3.out (fun h => h)).cell 0; rw [show (scells S)[0]? = some (.int .i64 S.pages) from rfl, z0] at this; exact this); have c1 : w3.cell? ⟨gp, 1, none⟩ = some (.int .i64 0) := (by have := (HB.out.but HG3.out (fun h => h)).cell 1; rw [show (scells S)[1]? = some (.int .i64 S.budget) from rfl, z1] at this; exact this); have c2 : w3.cell? ⟨gp, 2, none⟩ = some (.bool false) := (by have := (HB.out.but HG3.out (fun h => h)).cell 2; rw [show (scells S)[2]? = some (.bool S.wide) from rfl, z2] at this; exact this); have c3 : w3.cell? ⟨gp, 3, none⟩ = some (.int .u32 0) := (by have := (HB.out.but HG3.out (fun h => h)).cell 3; rw [show (scells S)[3]? = some (.int .u32 S.boot) from rfl, z3] at this; exact this); have c4 : w3.cell? ⟨gp, 4, none⟩ = some (.int .u64 S.version) := (HB.out.but HG3.out (fun h => h)).cell 4)
      | fail)
    go_ret
    exact ⟨by rw [HF.out]; rfl, HG.out.trans HG3.out⟩
  by_cases z5 : S.epoch = 0
  case neg =>
    have HF := Hid.mk' (HNO.out (fun e => z5 (by rw [e]; rfl)))
    have n5 : (S.epoch == 0) = false := by simpa using z5
    go_enter Try.func15, Try.ntmps15
    go_upto_region 1 with fail
    rw [← HW.out, ← HGP.out]
    go_wp2_with (first
      | (refine wpList_build_run rfl _ [] rfl [] rfl _ (HBU.out _) ?_)
      | (rw [← HWZ.out, ← HGZ.out]; refine wpList_store_at rfl _ _ _ rfl gz 0 (u8s z32) rfl (by show Value.agg Z = _; rw [HZ.out]) 24 [] (u8s z32) [] (by simpa using HBZ.out) rfl rfl i32a (u8s_one _) ?_; intro w3 hb3 hbut3; rw [List.nil_append, List.append_nil] at hb3; have HB3 := Hid.mk' hb3; have HG3 : Hid (Grow wb w3) := HG2.out.then hbut3 (fun b hb e => by have := HGZ.out; omega); clear hb3 hbut3 hz; have c0 : w3.cell? ⟨gp, 0, none⟩ = some (.int .i64 0) := (by have := (HB.out.but HG3.out (fun h => h)).cell 0; rw [show (scells S)[0]? = some (.int .i64 S.pages) from rfl, z0] at this; exact this); have c1 : w3.cell? ⟨gp, 1, none⟩ = some (.int .i64 0) := (by have := (HB.out.but HG3.out (fun h => h)).cell 1; rw [show (scells S)[1]? = some (.int .i64 S.budget) from rfl, z1] at this; exact this); have c2 : w3.cell? ⟨gp, 2, none⟩ = some (.bool false) := (by have := (HB.out.but HG3.out (fun h => h)).cell 2; rw [show (scells S)[2]? = some (.bool S.wide) from rfl, z2] at this; exact this); have c3 : w3.cell? ⟨gp, 3, none⟩ = some (.int .u32 0) := (by have := (HB.out.but HG3.out (fun h => h)).cell 3; rw [show (scells S)[3]? = some (.int .u32 S.boot) from rfl, z3] at this; exact this); have c4 : w3.cell? ⟨gp, 4, none⟩ = some (.int .u64 0) := (by have := (HB.out.but HG3.out (fun h => h)).cell 4; rw [show (scells S)[4]? = some (.int .u64 S.version) from rfl, z4] at this; exact this); have c5 : w3.cell? ⟨gp, 5, none⟩ = some (.int .u32 S.epoch) := (HB.out.but HG3.out (fun h => h)).cell 5)
      | fail)
    go_ret
    exact ⟨by rw [HF.out]; rfl, HG.out.trans HG3.out⟩
  by_cases z6 : S.cursor = 0
  case neg =>
    have HF := Hid.mk' (HNO.out (fun e => z6 (by rw [e]; rfl)))
    have n6 : (S.cursor == 0) = false := by simpa using z6
    go_enter Try.func15, Try.ntmps15
    go_upto_region 1 with fail
    rw [← HW.out, ← HGP.out]
    go_wp2_with (first
      | (refine wpList_build_run rfl _ [] rfl [] rfl _ (HBU.out _) ?_)
      | (rw [← HWZ.out, ← HGZ.out]; refine wpList_store_at rfl _ _ _ rfl gz 0 (u8s z32) rfl (by show Value.agg Z = _; rw [HZ.out]) 24 [] (u8s z32) [] (by simpa using HBZ.out) rfl rfl i32a (u8s_one _) ?_; intro w3 hb3 hbut3; rw [List.nil_append, List.append_nil] at hb3; have HB3 := Hid.mk' hb3; have HG3 : Hid (Grow wb w3) := HG2.out.then hbut3 (fun b hb e => by have := HGZ.out; omega); clear hb3 hbut3 hz; have c0 : w3.cell? ⟨gp, 0, none⟩ = some (.int .i64 0) := (by have := (HB.out.but HG3.out (fun h => h)).cell 0; rw [show (scells S)[0]? = some (.int .i64 S.pages) from rfl, z0] at this; exact this); have c1 : w3.cell? ⟨gp, 1, none⟩ = some (.int .i64 0) := (by have := (HB.out.but HG3.out (fun h => h)).cell 1; rw [show (scells S)[1]? = some (.int .i64 S.budget) from rfl, z1] at this; exact this); have c2 : w3.cell? ⟨gp, 2, none⟩ = some (.bool false) := (by have := (HB.out.but HG3.out (fun h => h)).cell 2; rw [show (scells S)[2]? = some (.bool S.wide) from rfl, z2] at this; exact this); have c3 : w3.cell? ⟨gp, 3, none⟩ = some (.int .u32 0) := (by have := (HB.out.but HG3.out (fun h => h)).cell 3; rw [show (scells S)[3]? = some (.int .u32 S.boot) from rfl, z3] at this; exact this); have c4 : w3.cell? ⟨gp, 4, none⟩ = some (.int .u64 0) := (by have := (HB.out.but HG3.out (fun h => h)).cell 4; rw [show (scells S)[4]? = some (.int .u64 S.version) from rfl, z4] at this; exact this); have c5 : w3.cell? ⟨gp, 5, none⟩ = some (.int .u32 0) := (by have := (HB.out.but HG3.out (fun h => h)).cell 5; rw [show (scells S)[5]? = some (.int .u32 S.epoch) from rfl, z5] at this; exact this); have c6 : w3.cell? ⟨gp, 6, none⟩ = some (.int .i64 S.cursor) := (HB.out.but HG3.out (fun h => h)).cell 6)
      | fail)
    go_ret
    exact ⟨by rw [HF.out]; rfl, HG.out.trans HG3.out⟩
  cases z7 : S.busy
  case true =>
    have HF := Hid.mk' (HNO.out (fun e => by rw [e] at z7; cases z7))
    go_enter Try.func15, Try.ntmps15
    go_upto_region 1 with fail
    rw [← HW.out, ← HGP.out]
    go_wp2_with (first
      | (refine wpList_build_run rfl _ [] rfl [] rfl _ (HBU.out _) ?_)
      | (rw [← HWZ.out, ← HGZ.out]; refine wpList_store_at rfl _ _ _ rfl gz 0 (u8s z32) rfl (by show Value.agg Z = _; rw [HZ.out]) 24 [] (u8s z32) [] (by simpa using HBZ.out) rfl rfl i32a (u8s_one _) ?_; intro w3 hb3 hbut3; rw [List.nil_append, List.append_nil] at hb3; have HB3 := Hid.mk' hb3; have HG3 : Hid (Grow wb w3) := HG2.out.then hbut3 (fun b hb e => by have := HGZ.out; omega); clear hb3 hbut3 hz; have c0 : w3.cell? ⟨gp, 0, none⟩ = some (.int .i64 0) := (by have := (HB.out.but HG3.out (fun h => h)).cell 0; rw [show (scells S)[0]? = some (.int .i64 S.pages) from rfl, z0] at this; exact this); have c1 : w3.cell? ⟨gp, 1, none⟩ = some (.int .i64 0) := (by have := (HB.out.but HG3.out (fun h => h)).cell 1; rw [show (scells S)[1]? = some (.int .i64 S.budget) from rfl, z1] at this; exact this); have c2 : w3.cell? ⟨gp, 2, none⟩ = some (.bool false) := (by have := (HB.out.but HG3.out (fun h => h)).cell 2; rw [show (scells S)[2]? = some (.bool S.wide) from rfl, z2] at this; exact this); have c3 : w3.cell? ⟨gp, 3, none⟩ = some (.int .u32 0) := (by have := (HB.out.but HG3.out (fun h => h)).cell 3; rw [show (scells S)[3]? = some (.int .u32 S.boot) from rfl, z3] at this; exact this); have c4 : w3.cell? ⟨gp, 4, none⟩ = some (.int .u64 0) := (by have := (HB.out.but HG3.out (fun h => h)).cell 4; rw [show (scells S)[4]? = some (.int .u64 S.version) from rfl, z4] at this; exact this); have c5 : w3.cell? ⟨gp, 5, none⟩ = some (.int .u32 0) := (by have := (HB.out.but HG3.out (fun h => h)).cell 5; rw [show (scells S)[5]? = some (.int .u32 S.epoch) from rfl, z5] at this; exact this); have c6 : w3.cell? ⟨gp, 6, none⟩ = some (.int .i64 0) := (by have := (HB.out.but HG3.out (fun h => h)).cell 6; rw [show (scells S)[6]? = some (.int .i64 S.cursor) from rfl, z6] at this; exact this); have c7 : w3.cell? ⟨gp, 7, none⟩ = some (.bool true) := (by have := (HB.out.but HG3.out (fun h => h)).cell 7; rw [show (scells S)[7]? = some (.bool S.busy) from rfl, z7] at this; exact this))
      | fail)
    go_ret
    exact ⟨by rw [HF.out]; rfl, HG.out.trans HG3.out⟩
  by_cases z8 : S.root = z32
  case neg =>
    have HF := Hid.mk' (HNO.out (fun e => z8 (by rw [e]; rfl)))
    go_enter Try.func15, Try.ntmps15
    go_upto_region 1 with fail
    rw [← HW.out, ← HGP.out]
    go_wp2_with (first
      | (refine wpList_build_run rfl _ [] rfl [] rfl _ (HBU.out _) ?_)
      | (rw [← HWZ.out, ← HGZ.out]; refine wpList_store_at rfl _ _ _ rfl gz 0 (u8s z32) rfl (by show Value.agg Z = _; rw [HZ.out]) 24 [] (u8s z32) [] (by simpa using HBZ.out) rfl rfl i32a (u8s_one _) ?_; intro w3 hb3 hbut3; rw [List.nil_append, List.append_nil] at hb3; have HB3 := Hid.mk' hb3; have HG3 : Hid (Grow wb w3) := HG2.out.then hbut3 (fun b hb e => by have := HGZ.out; omega); clear hb3 hbut3 hz; have c0 : w3.cell? ⟨gp, 0, none⟩ = some (.int .i64 0) := (by have := (HB.out.but HG3.out (fun h => h)).cell 0; rw [show (scells S)[0]? = some (.int .i64 S.pages) from rfl, z0] at this; exact this); have c1 : w3.cell? ⟨gp, 1, none⟩ = some (.int .i64 0) := (by have := (HB.out.but HG3.out (fun h => h)).cell 1; rw [show (scells S)[1]? = some (.int .i64 S.budget) from rfl, z1] at this; exact this); have c2 : w3.cell? ⟨gp, 2, none⟩ = some (.bool false) := (by have := (HB.out.but HG3.out (fun h => h)).cell 2; rw [show (scells S)[2]? = some (.bool S.wide) from rfl, z2] at this; exact this); have c3 : w3.cell? ⟨gp, 3, none⟩ = some (.int .u32 0) := (by have := (HB.out.but HG3.out (fun h => h)).cell 3; rw [show (scells S)[3]? = some (.int .u32 S.boot) from rfl, z3] at this; exact this); have c4 : w3.cell? ⟨gp, 4, none⟩ = some (.int .u64 0) := (by have := (HB.out.but HG3.out (fun h => h)).cell 4; rw [show (scells S)[4]? = some (.int .u64 S.version) from rfl, z4] at this; exact this); have c5 : w3.cell? ⟨gp, 5, none⟩ = some (.int .u32 0) := (by have := (HB.out.but HG3.out (fun h => h)).cell 5; rw [show (scells S)[5]? = some (.int .u32 S.epoch) from rfl, z5] at this; exact this); have c6 : w3.cell? ⟨gp, 6, none⟩ = some (.int .i64 0) := (by have := (HB.out.but HG3.out (fun h => h)).cell 6; rw [show (scells S)[6]? = some (.int .i64 S.cursor) from rfl, z6] at this; exact this); have c7 : w3.cell? ⟨gp, 7, none⟩ = some (.bool false) := (by have := (HB.out.but HG3.out (fun h => h)).cell 7; rw [show (scells S)[7]? = some (.bool S.busy) from rfl, z7] at this; exact this); have Q8 := Hid.mk' (HEX.out S.root z32 HRL.out rfl w3); have RC : ∀ j u, (u8s S.root)[j]? = some u → w3.cell? ((⟨gp, 8, none⟩ : Addr).add j) = some u := fun j u hj => (by rw [addr_add, (HB.out.but HG3.out (fun h => h)).cell]; exact root_at HRL.out hj); rw [decide_eq_false z8] at Q8)
      | (refine wpList_want_run rfl (exec_ld (ad := ⟨gp, 8, none⟩) Try.underlying24 rfl (cs := u8s S.root) (by rw [u8s_len, HRL.out]; exact i32a) (fun j u hj => RC j u hj) rfl rfl) ?_)
      | (refine wpList_want_run rfl (exec_ld (ad := ⟨gz, 0, none⟩) Try.underlying24 rfl (cs := u8s z32) i32a HB3.out.cells0 rfl rfl) ?_)
      | (refine wpList_want_run rfl (exec_eqA rfl rfl rfl (by kernel_rfl) Q8.out) ?_)
      | fail)
    go_ret
    exact ⟨by rw [HF.out]; rfl, HG.out.trans HG3.out⟩
  by_cases z9 : S.mark = z32
  case neg =>
    have HF := Hid.mk' (HNO.out (fun e => z9 (by rw [e]; rfl)))
    go_enter Try.func15, Try.ntmps15
    go_upto_region 1 with fail
    rw [← HW.out, ← HGP.out]
    go_wp2_with (first
      | (refine wpList_build_run rfl _ [] rfl [] rfl _ (HBU.out _) ?_)
      | (rw [← HWZ.out, ← HGZ.out]; refine wpList_store_at rfl _ _ _ rfl gz 0 (u8s z32) rfl (by show Value.agg Z = _; rw [HZ.out]) 24 [] (u8s z32) [] (by simpa using HBZ.out) rfl rfl i32a (u8s_one _) ?_; intro w3 hb3 hbut3; rw [List.nil_append, List.append_nil] at hb3; have HB3 := Hid.mk' hb3; have HG3 : Hid (Grow wb w3) := HG2.out.then hbut3 (fun b hb e => by have := HGZ.out; omega); clear hb3 hbut3 hz; have c0 : w3.cell? ⟨gp, 0, none⟩ = some (.int .i64 0) := (by have := (HB.out.but HG3.out (fun h => h)).cell 0; rw [show (scells S)[0]? = some (.int .i64 S.pages) from rfl, z0] at this; exact this); have c1 : w3.cell? ⟨gp, 1, none⟩ = some (.int .i64 0) := (by have := (HB.out.but HG3.out (fun h => h)).cell 1; rw [show (scells S)[1]? = some (.int .i64 S.budget) from rfl, z1] at this; exact this); have c2 : w3.cell? ⟨gp, 2, none⟩ = some (.bool false) := (by have := (HB.out.but HG3.out (fun h => h)).cell 2; rw [show (scells S)[2]? = some (.bool S.wide) from rfl, z2] at this; exact this); have c3 : w3.cell? ⟨gp, 3, none⟩ = some (.int .u32 0) := (by have := (HB.out.but HG3.out (fun h => h)).cell 3; rw [show (scells S)[3]? = some (.int .u32 S.boot) from rfl, z3] at this; exact this); have c4 : w3.cell? ⟨gp, 4, none⟩ = some (.int .u64 0) := (by have := (HB.out.but HG3.out (fun h => h)).cell 4; rw [show (scells S)[4]? = some (.int .u64 S.version) from rfl, z4] at this; exact this); have c5 : w3.cell? ⟨gp, 5, none⟩ = some (.int .u32 0) := (by have := (HB.out.but HG3.out (fun h => h)).cell 5; rw [show (scells S)[5]? = some (.int .u32 S.epoch) from rfl, z5] at this; exact this); have c6 : w3.cell? ⟨gp, 6, none⟩ = some (.int .i64 0) := (by have := (HB.out.but HG3.out (fun h => h)).cell 6; rw [show (scells S)[6]? = some (.int .i64 S.cursor) from rfl, z6] at this; exact this); have c7 : w3.cell? ⟨gp, 7, none⟩ = some (.bool false) := (by have := (HB.out.but HG3.out (fun h => h)).cell 7; rw [show (scells S)[7]? = some (.bool S.busy) from rfl, z7] at this; exact this); have Q8 := Hid.mk' (HEX.out S.root z32 HRL.out rfl w3); have Q9 := Hid.mk' (HEX.out S.mark z32 HML.out rfl w3); have RC : ∀ j u, (u8s S.root)[j]? = some u → w3.cell? ((⟨gp, 8, none⟩ : Addr).add j) = some u := fun j u hj => (by rw [addr_add, (HB.out.but HG3.out (fun h => h)).cell]; exact root_at HRL.out hj); have MC : ∀ j u, (u8s S.mark)[j]? = some u → w3.cell? ((⟨gp, 40, none⟩ : Addr).add j) = some u := fun j u hj => (by rw [addr_add, (HB.out.but HG3.out (fun h => h)).cell]; exact mark_at HRL.out hj); rw [decide_eq_false z9] at Q9; rw [decide_eq_true z8] at Q8)
      | (refine wpList_want_run rfl (exec_ld (ad := ⟨gp, 8, none⟩) Try.underlying24 rfl (cs := u8s S.root) (by rw [u8s_len, HRL.out]; exact i32a) (fun j u hj => RC j u hj) rfl rfl) ?_)
      | (refine wpList_want_run rfl (exec_ld (ad := ⟨gp, 40, none⟩) Try.underlying24 rfl (cs := u8s S.mark) (by rw [u8s_len, HML.out]; exact i32a) (fun j u hj => MC j u hj) rfl rfl) ?_)
      | (refine wpList_want_run rfl (exec_eqA rfl rfl rfl (by kernel_rfl) Q9.out) ?_)
      | (refine wpList_want_run rfl (exec_ld (ad := ⟨gz, 0, none⟩) Try.underlying24 rfl (cs := u8s z32) i32a HB3.out.cells0 rfl rfl) ?_)
      | (refine wpList_want_run rfl (exec_eqA rfl rfl rfl (by kernel_rfl) Q8.out) ?_)
      | fail)
    go_ret
    exact ⟨by rw [HF.out]; rfl, HG.out.trans HG3.out⟩
  have HF := Hid.mk' (HYES.out (by
    cases S
    simp only at z0 z1 z2 z3 z4 z5 z6 z7 z8 z9
    subst z0 z1 z2 z3 z4 z5 z6 z7 z8 z9
    rfl))
  go_enter Try.func15, Try.ntmps15
  go_upto_region 1 with fail
  rw [← HW.out, ← HGP.out]
  go_wp2_with (first
    | (refine wpList_build_run rfl _ [] rfl [] rfl _ (HBU.out _) ?_)
    | (rw [← HWZ.out, ← HGZ.out]; refine wpList_store_at rfl _ _ _ rfl gz 0 (u8s z32) rfl (by show Value.agg Z = _; rw [HZ.out]) 24 [] (u8s z32) [] (by simpa using HBZ.out) rfl rfl i32a (u8s_one _) ?_; intro w3 hb3 hbut3; rw [List.nil_append, List.append_nil] at hb3; have HB3 := Hid.mk' hb3; have HG3 : Hid (Grow wb w3) := HG2.out.then hbut3 (fun b hb e => by have := HGZ.out; omega); clear hb3 hbut3 hz; have c0 : w3.cell? ⟨gp, 0, none⟩ = some (.int .i64 0) := (by have := (HB.out.but HG3.out (fun h => h)).cell 0; rw [show (scells S)[0]? = some (.int .i64 S.pages) from rfl, z0] at this; exact this); have c1 : w3.cell? ⟨gp, 1, none⟩ = some (.int .i64 0) := (by have := (HB.out.but HG3.out (fun h => h)).cell 1; rw [show (scells S)[1]? = some (.int .i64 S.budget) from rfl, z1] at this; exact this); have c2 : w3.cell? ⟨gp, 2, none⟩ = some (.bool false) := (by have := (HB.out.but HG3.out (fun h => h)).cell 2; rw [show (scells S)[2]? = some (.bool S.wide) from rfl, z2] at this; exact this); have c3 : w3.cell? ⟨gp, 3, none⟩ = some (.int .u32 0) := (by have := (HB.out.but HG3.out (fun h => h)).cell 3; rw [show (scells S)[3]? = some (.int .u32 S.boot) from rfl, z3] at this; exact this); have c4 : w3.cell? ⟨gp, 4, none⟩ = some (.int .u64 0) := (by have := (HB.out.but HG3.out (fun h => h)).cell 4; rw [show (scells S)[4]? = some (.int .u64 S.version) from rfl, z4] at this; exact this); have c5 : w3.cell? ⟨gp, 5, none⟩ = some (.int .u32 0) := (by have := (HB.out.but HG3.out (fun h => h)).cell 5; rw [show (scells S)[5]? = some (.int .u32 S.epoch) from rfl, z5] at this; exact this); have c6 : w3.cell? ⟨gp, 6, none⟩ = some (.int .i64 0) := (by have := (HB.out.but HG3.out (fun h => h)).cell 6; rw [show (scells S)[6]? = some (.int .i64 S.cursor) from rfl, z6] at this; exact this); have c7 : w3.cell? ⟨gp, 7, none⟩ = some (.bool false) := (by have := (HB.out.but HG3.out (fun h => h)).cell 7; rw [show (scells S)[7]? = some (.bool S.busy) from rfl, z7] at this; exact this); have Q8 := Hid.mk' (HEX.out S.root z32 HRL.out rfl w3); have Q9 := Hid.mk' (HEX.out S.mark z32 HML.out rfl w3); have RC : ∀ j u, (u8s S.root)[j]? = some u → w3.cell? ((⟨gp, 8, none⟩ : Addr).add j) = some u := fun j u hj => (by rw [addr_add, (HB.out.but HG3.out (fun h => h)).cell]; exact root_at HRL.out hj); have MC : ∀ j u, (u8s S.mark)[j]? = some u → w3.cell? ((⟨gp, 40, none⟩ : Addr).add j) = some u := fun j u hj => (by rw [addr_add, (HB.out.but HG3.out (fun h => h)).cell]; exact mark_at HRL.out hj); rw [decide_eq_true z8] at Q8; rw [decide_eq_true z9] at Q9)
    | (refine wpList_want_run rfl (exec_ld (ad := ⟨gp, 8, none⟩) Try.underlying24 rfl (cs := u8s S.root) (by rw [u8s_len, HRL.out]; exact i32a) (fun j u hj => RC j u hj) rfl rfl) ?_)
    | (refine wpList_want_run rfl (exec_ld (ad := ⟨gp, 40, none⟩) Try.underlying24 rfl (cs := u8s S.mark) (by rw [u8s_len, HML.out]; exact i32a) (fun j u hj => MC j u hj) rfl rfl) ?_)
    | (refine wpList_want_run rfl (exec_ld (ad := ⟨gz, 0, none⟩) Try.underlying24 rfl (cs := u8s z32) i32a HB3.out.cells0 rfl rfl) ?_)
    | (refine wpList_want_run rfl (exec_eqA rfl rfl rfl (by kernel_rfl) Q8.out) ?_)
    | (refine wpList_want_run rfl (exec_eqA rfl rfl rfl (by kernel_rfl) Q9.out) ?_)
    | fail)
  go_ret
  exact ⟨by rw [HF.out]; rfl, HG.out.trans HG3.out⟩
end
end Go.Proofs.Ytcikldklacgafaa
