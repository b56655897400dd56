/- ghash: a block taken into a sum; the blocks of bytes, one by one. -/
import Derived.Test.YtpdkdeebdhdhgaaGhashNew
import Derived.Test.YtpdkdeebdhdhgaaCuts
namespace Go.Proofs.Ytpdkdeebdhdhgaa
open Go.RowKit

/-- A sum that goes on from y. -/
def gF (h y : G) (L : List Nat) : Nat → G
  | 0 => y
  | k + 1 => gm (gF h y L k ^^^ toG (blkAt L k)) h
theorem gF_zero (h : G) (L : List Nat) : ∀ k, gF h 0#128 L k = gsG h L k
  | 0 => rfl
  | k + 1 => by show gm (gF h 0#128 L k ^^^ _) h = gm (gsG h L k ^^^ _) h; rw [gF_zero h L k]
theorem blk_front (A R : List Nat) (k n : Nat) (hA : A.length = n * 16) (hk : k < n) : blkAt (A ++ R) k = blkAt A k := by
  unfold blkAt
  refine mk16_congr (fun i hi => ?_)
  unfold List.getD
  rw [List.getElem?_append_left (by omega)]
theorem blk_back (A R : List Nat) (k n : Nat) (hA : A.length = n * 16) : blkAt (A ++ R) (n + k) = blkAt R k := by
  unfold blkAt
  refine mk16_congr (fun i hi => ?_)
  unfold List.getD
  rw [List.getElem?_append_right (by omega), show 16 * (n + k) + i - A.length = 16 * k + i by omega]
theorem gsG_front (h : G) (A R : List Nat) (n : Nat) (hA : A.length = n * 16) : ∀ k, k ≤ n → gsG h (A ++ R) k = gsG h A k
  | 0, _ => rfl
  | k + 1, hk => by
    show gm (gsG h (A ++ R) k ^^^ toG (blkAt (A ++ R) k)) h = gm (gsG h A k ^^^ toG (blkAt A k)) h
    rw [gsG_front h A R n hA k (by omega), blk_front A R k n hA (by omega)]
theorem gsG_back (h : G) (A R : List Nat) (n : Nat) (hA : A.length = n * 16) : ∀ k, gsG h (A ++ R) (n + k) = gF h (gsG h A n) R k
  | 0 => gsG_front h A R n hA n (Nat.le_refl _)
  | k + 1 => by
    show gm (gsG h (A ++ R) (n + k) ^^^ toG (blkAt (A ++ R) (n + k))) h = gm (gF h (gsG h A n) R k ^^^ toG (blkAt R k)) h
    rw [gsG_back h A R n hA k, blk_back A R k n hA]
theorem gsum_parts (h : List B8) (aad text : List Nat) : toG (gsum h aad text) = gm (gF (toG h) (gF (toG h) 0#128 (padB aad) (nblk aad.length)) (padB text) (nblk text.length) ^^^ toG (blkAt (lastB aad.length text.length) 0)) (toG h) := by
  unfold gsum gall
  rw [toG_sum, gsG_back _ _ _ (nblk aad.length + nblk text.length) (by rw [List.length_append, padB_len, padB_len]; omega) 1]
  show gm (gsG (toG h) (padB aad ++ padB text) (nblk aad.length + nblk text.length) ^^^ _) _ = _
  rw [gsG_back _ _ _ (nblk aad.length) (padB_len aad), gF_zero]
theorem blk_bytes (zs : List Nat) (hz : ∀ z ∈ zs, z < 256) (k : Nat) : (zs.drop (16 * k)).take 16 ++ List.replicate (16 - (zs.drop (16 * k)).length) 0 = nts (blkAt (padB zs) k) := by
  apply List.ext_getElem?
  intro i
  by_cases hi : i < 16
  · rw [nts_at _ i (by rw [blkAt_len]; exact hi)]
    unfold blkAt
    rw [mk16_at _ i hi, b8_of _ (by
      by_cases h : 16 * k + i < (padB zs).length
      · exact padB_lt hz _ (getD_mem _ _ h)
      · simp [List.getD, h])]
    unfold padB List.getD
    by_cases h : 16 * k + i < zs.length
    · rw [List.getElem?_append_left (by rw [List.length_take, List.length_drop]; omega), List.getElem?_take, if_pos hi, List.getElem?_drop, List.getElem?_append_left h]
      simp [h]
    · rw [List.getElem?_append_right (by rw [List.length_take, List.length_drop]; omega), List.getElem?_append_right (by omega), List.getElem?_replicate, List.getElem?_replicate, List.length_take, List.length_drop]
      rw [if_pos (by omega)]
      split <;> rfl
  · rw [List.getElem?_eq_none (by rw [List.length_append, List.length_take, List.length_replicate, List.length_drop]; omega), List.getElem?_eq_none (by rw [nts_len, blkAt_len]; omega)]
theorem last_bytes (a t : Nat) : nts (blkAt (lastB a t) 0) = lastB a t := by
  apply List.ext_getElem?
  intro i
  by_cases hi : i < 16
  · rw [nts_at _ i (by rw [blkAt_len]; exact hi)]
    unfold blkAt
    have hl : 16 * 0 + i < (lastB a t).length := by rw [lastB_len]; omega
    rw [mk16_at _ i hi, b8_of _ (lastB_lt a t _ (getD_mem _ _ hl))]
    unfold List.getD
    rw [Nat.mul_zero, Nat.zero_add] at hl ⊢
    simp [hl]
  · rw [List.getElem?_eq_none (by rw [nts_len, blkAt_len]; omega), List.getElem?_eq_none (by rw [lastB_len]; omega)]
/-- A block is taken. -/
structure Tk (w : World) (gk gc gy : Nat) (h : List B8) (y : G) : Prop where
  key : Ky w gk h
  cap : w.cell? ⟨gc, 0, none⟩ = some (.pointer (some ⟨gk, 0, none⟩))
  acc : Blk w gy 39 (ev y)
  ky : gk ≠ gy
  cy : gc ≠ gy
theorem Tk.then {w w' : World} {gk gc gy : Nat} {h : List B8} {y : G} (t : Tk w gk gc gy h y) (b : But (fun _ => False) w w') : Tk w' gk gc gy h y :=
  ⟨t.key.but b (fun h => h), (World.cell?_of_block (b.block gc (World.block_lt_of_cell? _ _ t.cap) (fun h => h))).trans t.cap, t.acc.but b (fun h => h), t.ky, t.cy⟩
theorem Tk.put {w w' : World} {gk gc gy : Nat} {h : List B8} {y y' : G} (t : Tk w gk gc gy h y) (b : But (· = gy) w w') (hb : Blk w' gy 39 (ev y')) : Tk w' gk gc gy h y' :=
  ⟨t.key.but b t.ky, (World.cell?_of_block (b.block gc (World.block_lt_of_cell? _ _ t.cap) t.cy)).trans t.cap, hb, t.ky, t.cy⟩
set_option maxRecDepth 100000 in
set_option maxHeartbeats 1000000 in
theorem take_any {w : World} {gk gc gy : Nat} {h B : List B8} {y : G} (ht : Tk w gk gc gy h y) (hB : B.length = 16) :
    Calls Try.prog 26 #[.agg (u8s (nts B)).toArray, .pointer (some ⟨gc, 0, none⟩), .pointer (some ⟨gy, 0, none⟩)] w fun e w' => e = .returned (.tuple #[]) ∧ Tk w' gk gc gy h (gm (y ^^^ toG B) (toG h)) ∧ But (· = gy) w w' := by
  obtain ⟨b, hbb⟩ : ∃ b, b = w.heap.size := ⟨_, rfl⟩
  obtain ⟨C, hC⟩ : ∃ C, C = (u8s (nts B)).toArray := ⟨_, rfl⟩
  rw [← hC]
  obtain ⟨W0, hW0⟩ : ∃ W0, W0 = w.alloc (.cells C 22) := ⟨_, rfl⟩
  have al : But (fun _ => False) w W0 := by rw [hW0]; exact (But.refl _ w).alloc _
  have HT0 := Hid.mk' (ht.then al)
  have HA0 : Hid (Blk W0 b 22 (u8s (nts B))) := by rw [hW0, hC]; exact Blk.new hbb.symm
  have HAL := Hid.mk' al
  have HBL : Hid ((nts B).length = 16) := by show _ = _; rw [nts_len]; exact hB
  have HB' := Hid.mk' hB
  have HB := Hid.mk' hbb
  have HW := Hid.mk' hW0
  clear hC hbb hW0 al hB ht
  go_enter Try.func26, Try.ntmps26
  go_upto_region 1 with fail
  rw [← HW.out, ← HB.out]
  refine region_class (l := [_, _, _, _, _, _, _, _]) (o := _) (fun w' => But (fun _ => False) W0 w') (by kernel_rfl) (by kernel_rfl) (by kernel_rfl) rfl (by kernel_rfl) (by kernel_rfl) ((But.refl _ W0).drew) ?_
  refine class_val (.pointer (some ⟨gk, 0, none⟩)) rfl (fun w' hw' => by have hc := (HT0.out.then hw').cap; go_simp) ?_
  intro K hK; go_simp; refine hK _ ?_; clear hK K
  refine class_val _ rfl (fun w' _ => rfl) ?_
  intro K hK; go_simp; refine hK _ ?_; clear hK K
  refine class_val (.pointer (some ⟨gk, 0, none⟩)) rfl (fun w' _ => by go_simp) ?_
  intro K hK; go_simp; refine hK _ ?_; clear hK K
  refine class_val (.agg (ev y).toArray) rfl (fun w' hw' => run_load_ev (blk_add (HT0.out.then hw').acc) rfl rfl) ?_
  intro K hK; go_simp; refine hK _ ?_; clear hK K
  refine class_val (.agg (u8s (nts B)).toArray) rfl (fun w' hw' => run_load16 HBL.out (blk_add (HA0.out.but hw' (fun h => h))) rfl rfl) ?_
  intro K hK; go_simp; refine hK _ ?_; clear hK K
  refine class_call (.agg (ev (toG B)).toArray) 21 #[.agg (u8s (nts B)).toArray] rfl (fun w' _ => by kernel_rfl) (fun w' hw' => (elementOf_any HB'.out).mono (fun r w'' h => ⟨h.1, hw'.trans h.2⟩)) ?_
  intro K hK; go_simp; refine hK _ ?_; clear hK K
  refine class_call (.agg (ev (y ^^^ toG B)).toArray) 27 #[.agg (ev y).toArray, .agg (ev (toG B)).toArray] rfl (fun w' _ => by kernel_rfl) (fun w' hw' => (plus_any y (toG B)).mono (fun r w'' h => ⟨h.1, hw'.trans h.2⟩)) ?_
  intro K hK; go_simp; refine hK _ ?_; clear hK K
  refine class_call (.agg (ev (gm (y ^^^ toG B) (toG h))).toArray) 22 #[.pointer (some ⟨gk, 0, none⟩), .agg (ev (y ^^^ toG B)).toArray] rfl (fun w' _ => by kernel_rfl) (fun w' hw' => (times_any (HT0.out.then hw').key).mono (fun r w'' h => ⟨h.1, hw'.trans h.2⟩)) ?_
  intro K hK; go_simp; refine hK _ ?_; clear hK K
  refine wpQuiet_nil ?_
  intro w1 hw1
  have HT1 := Hid.mk' (HT0.out.then hw1)
  have HA1 := Hid.mk' (HAL.out.trans hw1)
  obtain ⟨s, hs⟩ : ∃ s, s = gm (y ^^^ toG B) (toG h) := ⟨_, rfl⟩
  rw [← hs]
  have HS := Hid.mk' hs
  clear hs hw1 HW HT0 HA0 HAL
  go_wp2_with (refine wpList_store_ev rfl _ _ rfl gy 39 s y rfl (by exact rfl) HT1.out.acc ?_; intro w9 hs9 hb9)
  go_end0
  refine ⟨rfl, ?_, HA1.out.mono (fun _ _ h => h.elim) |>.trans hb9⟩
  rw [← HS.out]
  exact HT1.out.put hb9 hs9
end Go.Proofs.Ytpdkdeebdhdhgaa
