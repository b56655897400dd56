/- What the laws ask besides: awake. -/
import Derived.Test.YtkelfjpnjhjmoaaDoorMacOf
import Derived.Lib.SlBytesConst
namespace Go.Proofs.YtkelfjpnjhjmoaaDoor
open Go.RowKit

theorem hmac_jefe : hmac [74, 101, 102, 101] [119, 104, 97, 116, 32, 100, 111, 32, 121, 97, 32, 119, 97, 110, 116, 32, 102, 111, 114, 32, 110, 111, 116, 104, 105, 110, 103, 63] = [91, 220, 193, 70, 191, 96, 117, 78, 106, 4, 36, 38, 8, 149, 117, 199, 90, 0, 63, 8, 157, 39, 57, 131, 157, 236, 88, 185, 100, 236, 56, 67] := by decide +kernel

theorem lit_bs {w : World} {n : Nat} (L : List Nat) (C : Array Value) (f : Nat × Nat) (hC : C = (u8s L).toArray) (hn : L.length = n) (h0 : 0 < n) (hs : n ≤ 1000) (hl : ∀ z ∈ L, z < 256) {g : Nat} (hg : w.heap.size = g) :
    Bs (w.alloc (.cells C 5 f)) (.slice (some ⟨g, 0, none⟩) n n) L := by
  subst hg hC
  refine ⟨hl, by omega, .inr ⟨by omega, w.heap.size, 0, n, by rw [hn], by omega, by simp, fun i hi => ?_⟩⟩
  rw [cell_of_row _ _ _ _ _ _ (heap_alloc_new _ _), Nat.zero_add, List.getElem?_toArray, u8s_get L i hi]

set_option maxRecDepth 100000 in
set_option maxHeartbeats 4000000 in
theorem awake_any {w : World} (hk : Kw w) (hh : Hw w) :
    Calls Tryd.prog 9 #[] w fun e w' => e = .returned (.bool true) ∧ But (fun _ => False) w w' := by
  have hz2 : ∀ w : World, (zeroValue 27).run Tryd.prog w = .ok (.agg (u8s (List.replicate 32 0)).toArray) w := fun _ => by kernel_rfl
  obtain ⟨O, hO⟩ : ∃ O, O = (u8s (List.replicate 32 0)).toArray := ⟨_, rfl⟩
  rw [← hO] at hz2
  have HO := Hid.mk' hO
  clear hO
  obtain ⟨w1, hw1⟩ : ∃ w1, w1 = w.alloc (.cells #[.int .u8 74, .int .u8 101, .int .u8 102, .int .u8 101] 5 (4, 5)) := ⟨_, rfl⟩
  obtain ⟨w2, hw2⟩ : ∃ w2, w2 = w1.alloc (.cells #[.int .u8 119, .int .u8 104, .int .u8 97, .int .u8 116, .int .u8 32, .int .u8 100, .int .u8 111, .int .u8 32, .int .u8 121, .int .u8 97, .int .u8 32, .int .u8 119, .int .u8 97, .int .u8 110, .int .u8 116, .int .u8 32] 5 (16, 17)) := ⟨_, rfl⟩
  obtain ⟨w3, hw3⟩ : ∃ w3, w3 = w2.alloc (.cells #[.int .u8 102, .int .u8 111, .int .u8 114, .int .u8 32, .int .u8 110, .int .u8 111, .int .u8 116, .int .u8 104, .int .u8 105, .int .u8 110, .int .u8 103, .int .u8 63] 5 (12, 13)) := ⟨_, rfl⟩
  have s1 : w1.heap.size = w.heap.size + 1 := by rw [hw1]; simp
  have s2 : w2.heap.size = w.heap.size + 1 + 1 := by rw [hw2]; simp [s1]
  have s3 : w3.heap.size = w.heap.size + 1 + 1 + 1 := by rw [hw3]; simp [s2]
  have hcv1 := Go.Lib.run_convert_bytes_const (P := Tryd.prog) w 22 5 #[.int .u8 74, .int .u8 101, .int .u8 102, .int .u8 101] 4 4 Tryd.underlying22 Tryd.underlying5
  have hcv2 := Go.Lib.run_convert_bytes_const (P := Tryd.prog) w1 22 5 #[.int .u8 119, .int .u8 104, .int .u8 97, .int .u8 116, .int .u8 32, .int .u8 100, .int .u8 111, .int .u8 32, .int .u8 121, .int .u8 97, .int .u8 32, .int .u8 119, .int .u8 97, .int .u8 110, .int .u8 116, .int .u8 32] 16 16 Tryd.underlying22 Tryd.underlying5
  have hcv3 := Go.Lib.run_convert_bytes_const (P := Tryd.prog) w2 22 5 #[.int .u8 102, .int .u8 111, .int .u8 114, .int .u8 32, .int .u8 110, .int .u8 111, .int .u8 116, .int .u8 104, .int .u8 105, .int .u8 110, .int .u8 103, .int .u8 63] 12 12 Tryd.underlying22 Tryd.underlying5
  have k1 : But (fun _ => False) w w1 := by rw [hw1]; exact (But.refl _ w).alloc _
  have k2 : But (fun _ => False) w1 w2 := by rw [hw2]; exact (But.refl _ w1).alloc _
  have k3 : But (fun _ => False) w2 w3 := by rw [hw3]; exact (But.refl _ w2).alloc _
  have f1 : Bs w1 (.slice (some ⟨w.heap.size, 0, none⟩) 4 4) [74, 101, 102, 101] := by rw [hw1]; exact lit_bs _ _ _ rfl rfl (by decide) (by decide) (by decide) rfl
  have f2 : Bs w2 (.slice (some ⟨w.heap.size + 1, 0, none⟩) 16 16) [119, 104, 97, 116, 32, 100, 111, 32, 121, 97, 32, 119, 97, 110, 116, 32] := by rw [hw2]; exact lit_bs _ _ _ rfl rfl (by decide) (by decide) (by decide) s1
  have f3 : Bs w3 (.slice (some ⟨w.heap.size + 1 + 1, 0, none⟩) 12 12) [102, 111, 114, 32, 110, 111, 116, 104, 105, 110, 103, 63] := by rw [hw3]; exact lit_bs _ _ _ rfl rfl (by decide) (by decide) (by decide) s2
  have hps := Ps.two' (f2.but k3 (fun _ _ _ h => h)) f3
  have k4 : But (fun _ => False) w3 (w3.alloc (.cells #[.slice (some ⟨w.heap.size + 1, 0, none⟩) 16 16, .slice (some ⟨w.heap.size + 1 + 1, 0, none⟩) 12 12] 22)) := (But.refl _ w3).alloc _
  have q4 := ((k1.trans k2).trans k3).trans k4
  have hof := mof_any (f1.but ((k2.trans k3).trans k4) (fun _ _ _ h => h)) hps (hk.but q4 (fun h => h)) (hh.but q4 (fun h => h)) (by decide) (by decide) (by decide)
  rw [show [[119, 104, 97, 116, 32, 100, 111, 32, 121, 97, 32, 119, 97, 110, 116, 32], [102, 111, 114, 32, 110, 111, 116, 104, 105, 110, 103, 63]].flatten = [119, 104, 97, 116, 32, 100, 111, 32, 121, 97, 32, 119, 97, 110, 116, 32, 102, 111, 114, 32, 110, 111, 116, 104, 105, 110, 103, 63] from rfl, hmac_jefe, s3, hw3, hw2, hw1] at hof
  rw [s1, hw1] at hcv2
  rw [s2, hw2, hw1] at hcv3
  rw [hw3, hw2, hw1] at q4
  have HOF := Hid.mk' hof
  have HQ4 := Hid.mk' q4
  clear hof q4 k4 hps f1 f2 f3 k1 k2 k3 s1 s2 s3 hw1 hw2 hw3 hk hh
  obtain ⟨D, hD⟩ : ∃ D : List Nat, D = [91, 220, 193, 70, 191, 96, 117, 78, 106, 4, 36, 38, 8, 149, 117, 199, 90, 0, 63, 8, 157, 39, 57, 131, 157, 236, 88, 185, 100, 236, 56, 67] := ⟨_, rfl⟩
  rw [← hD] at HOF
  have HDL : Hid (D.length = 32) := by show _ = _; rw [hD]; rfl
  have HC4 : Hid (∀ (w5 : World) (g : Nat), Blk w5 g 27 (u8s D) → w5.cell? ⟨g, 0, none⟩ = some (.int .u8 91) ∧ w5.cell? ⟨g, 1, none⟩ = some (.int .u8 220) ∧ w5.cell? ⟨g, 31, none⟩ = some (.int .u8 67)) := by
    intro w5 g h
    rw [h.cell, h.cell, h.cell, hD]
    exact ⟨rfl, rfl, rfl⟩
  clear hD
  go_enter Tryd.func9, Tryd.ntmps9
  go_wp2_with (first
    | (go_at_call 11; refine Calls.mono HOF.out ?_; rintro e w9 ⟨rfl, hb9⟩)
    | (refine wpList_store_u8s i32s rfl _ _ rfl w9.heap.size D HDL.out rfl (by exact rfl) (u8s (List.replicate 32 0)) rfl (by rw [HO.out]; exact Blk.new rfl) ?_; intro w5 hb5 hbut5; obtain ⟨c0, c1, c2⟩ := HC4.out w5 _ hb5))
  go_ret
  refine ⟨rfl, ?_⟩
  exact ((HQ4.out.trans hb9).alloc _).then hbut5 (fun i hi e => by have := (HQ4.out.trans hb9).size; omega)
end Go.Proofs.YtkelfjpnjhjmoaaDoor
