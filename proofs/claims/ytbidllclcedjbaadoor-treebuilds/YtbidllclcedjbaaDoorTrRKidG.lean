/- tree's reference: Fault, Kid. -/
import Derived.Test.YtbidllclcedjbaaDoorTrCkAllG
namespace Go.Proofs.YtbidllclcedjbaaDoor
open Go.RowKit

set_option maxHeartbeats 2000000 in
theorem rfault_tr {w : World} {v : Value} {b : List Nat} (h : Bs w v b) (i : Int) :
    Calls Tryd.prog 15 #[v, .int .i64 i] w fun e w' => e = .returned (.int .i64 (rfK b i)) ∧ w' = w := by
  obtain ⟨ao, cap, rfl, -⟩ := h.gen
  clear h
  obtain ⟨R, hR⟩ : ∃ R, R = rfK b i := ⟨_, rfl⟩
  have HR := Hid.mk' hR
  rw [← hR]
  clear hR
  generalize hn : b.length = n at *
  have HN := Hid.mk' hn
  clear hn
  by_cases h1 : n = 256
  · subst h1
    by_cases h2 : i < 0
    · have hr : R = 1 := by rw [HR.out]; unfold rfK; rw [if_neg (by have := HN.out; omega), if_pos (.inl h2)]
      subst hr
      go_enter Tryd.func15, Tryd.ntmps15
      go_wp2
      go_ret
      exact ⟨rfl, rfl⟩
    · by_cases h3 : 7 < i
      · have hr : R = 1 := by rw [HR.out]; unfold rfK; rw [if_neg (by have := HN.out; omega), if_pos (.inr (by omega))]
        subst hr
        go_enter Tryd.func15, Tryd.ntmps15
        go_wp2
        go_ret
        exact ⟨rfl, rfl⟩
      · have hr : R = 0 := by rw [HR.out]; unfold rfK; rw [if_neg (by have := HN.out; omega), if_neg (by omega)]
        subst hr
        go_enter Tryd.func15, Tryd.ntmps15
        go_wp2
        go_ret
        exact ⟨rfl, rfl⟩
  · have hr : R = 3 := by rw [HR.out]; unfold rfK; rw [if_pos (by have := HN.out; omega)]
    subst hr
    go_enter Tryd.func15, Tryd.ntmps15
    go_wp2
    go_ret
    exact ⟨rfl, rfl⟩
theorem kid_get {b : List Nat} {i k : Nat} (hk : k < 32) : (kidL b i).getD k 0 = b.getD (32 * i + k) 0 := by
  unfold kidL
  simp only [List.getD]
  rw [List.getElem?_take_of_lt hk, List.getElem?_drop]
set_option maxRecDepth 100000 in
set_option maxHeartbeats 4000000 in
theorem rkid_any {w : World} {v : Value} {b : List Nat} (h : Bs w v b) {i : Nat} (hl : b.length = 256) (hi : i < 8) :
    Calls Tryd.prog 19 #[v, .int .i64 (i : Int)] w fun e w' => e = .returned (dkey (kidL b i)) ∧ Grow w w' := by
  obtain ⟨Z, hZ⟩ : ∃ Z, Z = u8s z32 := ⟨_, rfl⟩
  have hz := z32v
  rw [← hZ] at hz
  have HZL : Hid (Z.length = 32) := by show _ = _; rw [hZ]; rfl
  obtain ⟨g0, hg0⟩ : ∃ g, g = w.heap.size := ⟨_, rfl⟩
  obtain ⟨W, hW⟩ : ∃ W, W = (w.alloc (.cells Z.toArray 26)).alloc (.cells Z.toArray 26) := ⟨_, rfl⟩
  have hgW : Grow w W := by rw [hW]; exact ((But.refl _ w).alloc _).alloc _
  have hb0 : Blk W g0 26 Z := by rw [hW]; exact (Blk.new hg0.symm).but (R := fun _ => False) ((But.refl _ _).alloc _) (fun h => h)
  have hb1 : Blk W (g0 + 1) 26 Z := by rw [hW]; exact Blk.new (by simp [hg0])
  obtain ⟨D, hD⟩ : ∃ D, D = kidL b i := ⟨_, rfl⟩
  have hDl : D.length = 32 := by rw [hD]; exact kidL_len (by omega)
  have HDG : Hid (∀ k, k < 32 → D.getD k 0 = b.getD (32 * i + k) 0) := fun k hk => by rw [hD]; exact kid_get hk
  rw [← hD]
  obtain ⟨-, -, ⟨rfl, -⟩ | ⟨-, vb, off, cap, rfl, hcap, hvb, hc⟩⟩ := h
  · cases hl
  rw [hl]
  obtain ⟨m, hm⟩ : ∃ m, m = 32 * i := ⟨_, rfl⟩
  have hmi : 32 * (i : Int) = (m : Int) := by omega
  have hm8 : m + 32 ≤ 256 := by omega
  have HC : Hid (∀ k, k < 32 → W.cell? ⟨vb, off + (m + k), none⟩ = some (.int .u8 (D.getD k 0 : Nat))) := fun k hk => by
    rw [HDG.out k hk, ← hm]
    exact grow_cell hgW (hc (m + k) (by omega))
  have HVB : Hid (vb < w.heap.size) := hvb
  have HB0 := Hid.mk' hb0
  have HB1 : Hid (Blk W (g0 + 1) 26 (u8s (D.take 0 ++ List.replicate (32 - 0) 0))) := by
    show Blk _ _ _ _
    rw [hZ] at hb1
    exact hb1
  have HW := Hid.mk' hW
  have HG0 := Hid.mk' hg0
  have HGW := Hid.mk' hgW
  have HDL := Hid.mk' hDl
  clear hb0 hb1 hW hg0 hgW hDl hD hc hvb hZ hm hl
  go_enter Tryd.func19, Tryd.ntmps19
  go_upto_region 3 with fail
  rw [← HW.out, ← HG0.out]
  go_loopw [6] (fun iv wr => ∃ k : Nat, k ≤ 32 ∧ iv = .int .i64 k ∧ Blk wr (g0 + 1) 26 (u8s (D.take k ++ List.replicate (32 - k) 0)) ∧ But (· = g0 + 1) W wr) (fun iv _ => 32 - (intOf iv).toNat)
  case atStart => exact ⟨0, by omega, rfl, HB1.out, But.refl _ _⟩
  case round =>
    obtain ⟨k, hk, rfl, hbk, hbt⟩ := hrel
    have HBK := Hid.mk' hbk
    have HBT := Hid.mk' hbt
    by_cases hlt : k < 32
    · have cd : wr.cell? ⟨vb, off + (m + k), none⟩ = some (.int .u8 (D.getD k 0 : Nat)) := (World.cell?_of_block (hbt.block vb (by have := HVB.out; have := HGW.out.size; omega) (by have := HVB.out; have := HG0.out; omega))).trans (HC.out k hlt)
      have cz : wr.cell? ⟨g0 + 1, k, none⟩ = some (.int .u8 ((D.take k ++ List.replicate (32 - k) 0).getD k 0 : Nat)) := by
        rw [hbk.cell, u8s_get _ _ (by have := HDL.out; simp; omega)]
      have fz := hbk.free k
      have hwm : IntKind.i64.wrap ((m : Int) + (k : Int)) = ((m + k : Nat) : Int) := by rw [wrapI (by omega) (by omega)]; omega
      generalize hdk : D.getD k 0 = dk at *
      have HDK := Hid.mk' hdk
      clear hbk hbt hdk
      go_wp2
      refine ⟨⟨k + 1, by omega, by go_num, ?_, HBT.out.trans (But.set1 wr (g0 + 1) k _)⟩, by simp [intOf]; omega⟩
      have := HBK.out.set k (.int .u8 (dk : Int))
      rw [← HDK.out, fill_next D k HDL.out hlt] at this
      rw [← HDK.out]
      exact this
    · have hk32 : k = 32 := by omega
      subst hk32
      have hb' : Blk wr (g0 + 1) 26 (u8s D) := by
        rw [List.take_of_length_le (by have := HDL.out; omega), Nat.sub_self, List.replicate_zero, List.append_nil] at hbk
        exact hbk
      have HR0 := Hid.mk' (HB0.out.but hbt (show ¬ (g0 = g0 + 1) by omega))
      have HB' := Hid.mk' hb'
      clear hbk hbt hb'
      go_wp2_with (first
        | (refine wpList_load_u8s ukt i32 rfl _ rfl (g0 + 1) D HDL.out rfl HB'.out ?_)
        | (refine wpList_store_u8s i32 rfl _ _ rfl g0 D HDL.out rfl rfl Z HZL.out HR0.out ?_; intro W9 hb9 hbut9)
        | fail)
      refine bodyPost_ret (results_cell_row rfl _ _ g0 _ _ _ _ rfl hb9 ukt rfl (by rw [i32]; simp [HDL.out])) rfl ⟨rfl, ?_⟩
      exact (HGW.out.then HBT.out (fun i hi e => by have := HG0.out; omega)).then hbut9 (fun i hi e => by have := HG0.out; omega)
end Go.Proofs.YtbidllclcedjbaaDoor
