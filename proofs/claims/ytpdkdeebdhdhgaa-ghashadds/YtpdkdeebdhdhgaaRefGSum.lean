/- The reference's Sum. -/
import Derived.Test.YtpdkdeebdhdhgaaRefGBlocks
import Derived.Test.YtpdkdeebdhdhgaaRefGTimes
import Derived.Test.YtpdkdeebdhdhgaaRefGAdd
import Derived.Test.YtpdkdeebdhdhgaaClasses
import Derived.Test.YtpdkdeebdhdhgaaRefBytes
import Derived.Test.YtpdkdeebdhdhgaaStages
import Derived.Deep.Cut
namespace Go.Proofs.Ytpdkdeebdhdhgaa
open Go.RowKit

/-- How many bits so many bytes have, in eight bytes, the highest first. -/
def lenB (n i : Nat) : Nat := 8 * n / 2 ^ (56 - 8 * i) % 256
/-- The last block: of two lengths. -/
def lastB (a t : Nat) : List Nat := (List.range 16).map fun j => if j < 8 then lenB a j else lenB t (j - 8)
def blkAt (L : List Nat) (k : Nat) : List B8 := mk16 fun i => BitVec.ofNat 8 (L.getD (16 * k + i) 0)
def gsumN (h : List B8) (L : List Nat) : Nat → List B8
  | 0 => gzero
  | k + 1 => gtimes (gadd (gsumN h L k) (blkAt L k)) h
def gall (aad text : List Nat) : List Nat := padB aad ++ padB text ++ lastB aad.length text.length
def gsum (h : List B8) (aad text : List Nat) : List B8 := gsumN h (gall aad text) (nblk aad.length + nblk text.length + 1)
theorem lastB_len (a t : Nat) : (lastB a t).length = 16 := by simp [lastB]
theorem gsumN_len (h : List B8) (L : List Nat) (k : Nat) : (gsumN h L k).length = 16 := by
  cases k
  · simp [gsumN, gzero]
  · exact gtimes_len _ _
theorem gall_len (aad text : List Nat) : (gall aad text).length = (nblk aad.length + nblk text.length + 1) * 16 := by
  unfold gall
  rw [List.length_append, List.length_append, padB_len, padB_len, lastB_len]; omega
theorem lenB_lt (n i : Nat) : lenB n i < 256 := Nat.mod_lt _ (by decide)
theorem padB_lt {xs : List Nat} (h : ∀ z ∈ xs, z < 256) : ∀ z ∈ padB xs, z < 256 := by
  intro z hz
  rcases List.mem_append.1 hz with h1 | h1
  · exact h z h1
  · rw [(List.mem_replicate.1 h1).2]; decide
theorem lastB_lt (a t : Nat) : ∀ z ∈ lastB a t, z < 256 := by
  intro z hz
  obtain ⟨j, _, rfl⟩ := List.mem_map.1 hz
  show (if j < 8 then lenB a j else lenB t (j - 8)) < 256
  split <;> exact lenB_lt _ _
theorem gall_lt {aad text : List Nat} (h1 : ∀ z ∈ aad, z < 256) (h2 : ∀ z ∈ text, z < 256) : ∀ z ∈ gall aad text, z < 256 := by
  intro z hz
  rcases List.mem_append.1 hz with h | h
  · rcases List.mem_append.1 h with h | h
    · exact padB_lt h1 z h
    · exact padB_lt h2 z h
  · exact lastB_lt _ _ z h
theorem blkAt_len (L : List Nat) (k : Nat) : (blkAt L k).length = 16 := mk16_len _
theorem blkAt_cell {L : List Nat} (hL : ∀ z ∈ L, z < 256) (k : Nat) (hk : 16 * k + 16 ≤ L.length) (j : Nat) (v : Value) (h : (u8s (nts (blkAt L k)))[j]? = some v) : j < 16 ∧ (u8s L)[16 * k + j]? = some v := by
  have hj : j < 16 := by
    have := (List.getElem?_eq_some_iff.1 h).1
    rwa [show (u8s (nts (blkAt L k))).length = 16 by unfold u8s; rw [List.length_map, nts_len, blkAt_len]] at this
  refine ⟨hj, ?_⟩
  rw [← h]
  unfold u8s
  rw [List.getElem?_map, List.getElem?_map, nts_at _ j (by rw [blkAt_len]; exact hj)]
  have hlt : 16 * k + j < L.length := by omega
  have e : L[16 * k + j]? = some (L.getD (16 * k + j) 0) := by simp [List.getD, hlt]
  rw [e]
  unfold blkAt
  rw [mk16_at _ j hj, b8_of _ (hL _ (by simp [List.getD, hlt]))]
theorem wpList_append_ran {w w' : World} {ops : Array Oper} {rest : List Oper} {o : Oper} {a : Act} {Q : Exit → Act → World → Prop} (hgd : o.guard = none) (s x : Operand) (t : TypeId)
    (ho : o.op = .call { callee := .builtin .append, args := #[s, x], argTypes := #[t, t] }) (vs vx : Value) (hs : a.eval s = vs) (hx : a.eval x = vx) {v' : Value}
    (hr : (Builtin.append_ #[t, t] o.type #[vs, vx]).run Try.prog w = .ok v' w')
    (h : wpList Try.prog ops Q rest (a.put o.dst v') w') : wpList Try.prog ops Q (o :: rest) a w :=
  wpList_plain hgd fun _ hK => by
    unfold Oper.wp execOp
    simp only [ho, resolve, invoke, builtin, Sem.run_bind, Sem.run_pure, Result.andThen_ok, List.map_toArray, List.map_cons, List.map_nil, hs, hx, hr]
    exact hK _ _ h
/-- Blocks behind blocks that are the call's own. -/
theorem append_blocks {w : World} {base base2 n m : Nat} {v u : Value} {zs ys : List Nat} (ty : TypeId) (hv : w.ownsRow base 22 16 v n (u8s zs)) (hu : w.ownsRow base2 22 16 u m (u8s ys)) (hl : n + m ≤ 100000) (hb : base ≤ w.heap.size) :
    ∃ v' w', (Builtin.append_ #[51, 51] ty #[v, u]).run Try.prog w = .ok v' w' ∧ w'.ownsRow base 22 16 v' (n + m) (u8s (zs ++ ys)) ∧ w.grownBy w' v.ownBlock := by
  obtain ⟨i0, hi, hz0, hz1, hz2⟩ := info_parts info16
  obtain ⟨hul, h | ⟨g, cap, cur, rfl, -, hblk, hmc, -, hcs, htk⟩⟩ := id hu
  · obtain ⟨rfl, rfl⟩ := h
    have hy : ys = [] := by
      have : (u8s ys).length = 0 := by rw [hul]
      unfold u8s at this
      simpa using this
    subst hy
    have hr := run_append_owned_none (P := Try.prog) w base 51 ty 22 i0 16 Try.underlying51 hi _ n (u8s zs) hv
    exact ⟨v, w, hr, by simpa using hv, World.grownBy.refl _ _⟩
  · obtain ⟨v', w', hr, ho, hg, _⟩ := run_append_own (P := Try.prog) w base 51 ty 22 i0 _ 16 16 Try.underlying51 hi hz0 hz1 hz2 (by simp [Value.cells, u8s]) (by decide) v n (u8s zs) hv ⟨g, 0, none⟩ m cap (u8s ys) hul (by
        intro j x hx
        rw [addr_add', cell_of_row w g j _ _ _ hblk, ← Array.getElem?_toList]
        rw [← htk, List.getElem?_take] at hx
        by_cases hj : j < m * 16
        · rwa [if_pos hj] at hx
        · rw [if_neg hj] at hx; cases hx) (u8s_one _) (by unfold maxLen; omega) (by omega) hb
    refine ⟨v', w', hr, ?_, hg⟩
    rw [show u8s (zs ++ ys) = u8s zs ++ u8s ys by simp [u8s]]
    exact ho
theorem zeroG (w : World) : (zeroValue 22).run Try.prog w = .ok (.agg (u8s (List.replicate 16 0)).toArray) w := by kernel_rfl
/-- The last block with its first k bytes of either half. -/
def partL (a t k : Nat) : List Nat := (List.range 16).map fun j => if j % 8 < k then (if j < 8 then lenB a j else lenB t (j - 8)) else 0
def partL' (a t k : Nat) : List Nat := (partL a t k).set k (lenB a k)
theorem partL_len (a t k : Nat) : (partL a t k).length = 16 := by simp [partL]
theorem partL_zero (a t : Nat) : partL a t 0 = List.replicate 16 0 := by
  apply List.ext_getElem (by simp [partL])
  intro i h1 h2
  simp only [partL, List.getElem_map, List.getElem_replicate]
  rw [if_neg (Nat.not_lt_zero _)]
theorem partL_all (a t : Nat) : partL a t 8 = lastB a t := by
  apply List.ext_getElem (by simp [partL, lastB])
  intro i h1 h2
  simp only [partL, lastB, List.getElem_map, List.getElem_range]
  rw [if_pos (by omega)]
theorem partL_set (a t k : Nat) (hk : k < 8) : (partL' a t k).set (8 + k) (lenB t k) = partL a t (k + 1) := by
  unfold partL'
  apply List.ext_getElem (by simp [partL])
  intro i h1 h2
  have hi : i < 16 := by simpa [partL] using h2
  simp only [List.getElem_set, partL, List.getElem_map, List.getElem_range]
  by_cases e1 : 8 + k = i
  · rw [if_pos e1]
    subst e1
    rw [if_pos (by omega), if_neg (by omega), show 8 + k - 8 = k by omega]
  · rw [if_neg e1]
    by_cases e2 : k = i
    · rw [if_pos e2]
      subst e2
      rw [if_pos (by omega), if_pos (by omega)]
    · rw [if_neg e2]
      by_cases e3 : i % 8 < k
      · rw [if_pos e3, if_pos (show i % 8 < k + 1 by omega)]
      · rw [if_neg e3, if_neg (show ¬ i % 8 < k + 1 by omega)]
theorem build16' (w : World) (a0 a1 a2 a3 a4 a5 a6 a7 a8 a9 a10 a11 a12 a13 a14 a15 : Nat) : (Instr.buildSlice 51 1 #[(0, .agg (u8s [a0, a1, a2, a3, a4, a5, a6, a7, a8, a9, a10, a11, a12, a13, a14, a15]).toArray)]).run Try.prog w = .ok (.slice (some ⟨w.heap.size, 0, none⟩) 1 1) (w.alloc (.cells (u8s [a0, a1, a2, a3, a4, a5, a6, a7, a8, a9, a10, a11, a12, a13, a14, a15]).toArray 22)) := by kernel_rfl
theorem build16 (w : World) (D : List Nat) (h : D.length = 16) : (Instr.buildSlice 51 1 #[(0, .agg (u8s D).toArray)]).run Try.prog w = .ok (.slice (some ⟨w.heap.size, 0, none⟩) 1 1) (w.alloc (.cells (u8s D).toArray 22)) := by
  match D, h with
  | [a0, a1, a2, a3, a4, a5, a6, a7, a8, a9, a10, a11, a12, a13, a14, a15], _ => exact build16' w a0 a1 a2 a3 a4 a5 a6 a7 a8 a9 a10 a11 a12 a13 a14 a15
/-- What memory is amid Sum's last loop. -/
structure SumJ (w : World) (g : Nat) (h : List B8) (gM : Nat) (cur : Array Value) (gy : Nat) (y : List B8) (wr : World) : Prop where
  key : Blk wr g 22 (u8s (nts h))
  res : Blk wr (g + 1) 22 (u8s (List.replicate 16 0))
  row : wr.heap[gM]? = some (.cells cur 22 (0, 0))
  acc : Blk wr gy 22 (u8s (nts y))
  but : But (fun _ => False) w wr
theorem SumJ.then {w wr w' : World} {g : Nat} {h : List B8} {gM : Nat} {cur : Array Value} {gy : Nat} {y : List B8} (i : SumJ w g h gM cur gy y wr) (k : But (fun _ => False) wr w') : SumJ w g h gM cur gy y w' :=
  ⟨i.key.but k (fun h => h), i.res.but k (fun h => h), (k.block gM (lt_of_block i.row) (fun h => h)).trans i.row, i.acc.but k (fun h => h), i.but.trans k⟩
theorem SumJ.put {w wr w' : World} {g : Nat} {h : List B8} {gM : Nat} {cur : Array Value} {gy : Nat} {y y' : List B8} (i : SumJ w g h gM cur gy y wr) (k : But (· = gy) wr w') (hb : Blk w' gy 22 (u8s (nts y'))) (h1 : g + 1 < gy) (h2 : gM < gy) (h3 : w.heap.size ≤ gy) : SumJ w g h gM cur gy y' w' :=
  ⟨i.key.but k (show ¬ (g = gy) by omega), i.res.but k (show ¬ (g + 1 = gy) by omega), (k.block gM (lt_of_block i.row) (show ¬ (gM = gy) by omega)).trans i.row, hb, i.but.then k (fun j hj e => by omega)⟩
theorem run_load16 {w : World} {o : Oper} {a : Act} {x : Operand} {ad : Addr} {D : List Nat} (hD : D.length = 16) (hc : ∀ j v, (u8s D)[j]? = some v → w.cell? (ad.add j) = some v) (ho : o.op = .load 22 x) (hx : a.eval x = .pointer (some ad)) :
    (execOp a.eval o).run Try.prog w = .ok (.value (.agg (u8s D).toArray)) w := by
  have h := run_loadVar_cells w ad 22 (u8s D) _ hc Try.underlying22 rfl (by rw [i16g]; simp [u8s, hD])
  unfold execOp
  simp only [ho, hx, Instr.loadAt, Instr.sureAddr, Sem.run_bind, Sem.run_pure, Result.andThen_ok, h]
theorem blk_add {w : World} {g : Nat} {T : TypeId} {L : List Value} (h : Blk w g T L) : ∀ j v, L[j]? = some v → w.cell? ((⟨g, 0, none⟩ : Addr).add j) = some v := by
  intro j v hv
  rw [addr_add', h.cell]; exact hv
/-- What memory is amid Sum. -/
structure SumI (w : World) (g : Nat) (h : List B8) (base : Nat) (vL : Value) (n : Nat) (L : List Nat) (wr : World) : Prop where
  key : Blk wr g 22 (u8s (nts h))
  res : Blk wr (g + 1) 22 (u8s (List.replicate 16 0))
  own : wr.ownsRow base 22 16 vL n (u8s L)
  but : But (fun _ => False) w wr
theorem ownsRow_but {R : Nat → Prop} {w w' : World} {base n : Nat} {e : TypeId} {size : Nat} {v : Value} {xs : List Value} (h : w.ownsRow base e size v n xs) (k : But R w w') (hr : ∀ j, v.ownBlock = some j → ¬ R j) : w'.ownsRow base e size v n xs := by
  obtain ⟨hl, h | ⟨g, cap, cur, rfl, hge, hb, h1, h2, h3, h4⟩⟩ := h
  · exact ⟨hl, .inl h⟩
  · exact ⟨hl, .inr ⟨g, cap, cur, rfl, hge, (k.block g (lt_of_block hb) (hr g rfl)).trans hb, h1, h2, h3, h4⟩⟩
theorem SumI.then {R : Nat → Prop} {w wr w' : World} {g : Nat} {h : List B8} {base : Nat} {vL : Value} {n : Nat} {L : List Nat} (i : SumI w g h base vL n L wr) (k : But R wr w') (h0 : ¬ R g) (h1 : ¬ R (g + 1)) (h2 : ∀ j, vL.ownBlock = some j → ¬ R j) (h3 : ∀ j, j < w.heap.size → ¬ R j) : SumI w g h base vL n L w' :=
  ⟨i.key.but k h0, i.res.but k h1, ownsRow_but i.own k h2, i.but.then k (fun j hj e => h3 j hj e)⟩
theorem own_ge {w : World} {base n : Nat} {e : TypeId} {size : Nat} {v : Value} {xs : List Value} (h : w.ownsRow base e size v n xs) : ∀ j, v.ownBlock = some j → base ≤ j ∧ j < w.heap.size := by
  intro j hj
  obtain ⟨-, ⟨rfl, -⟩ | ⟨g, cap, cur, rfl, hge, hb, -⟩⟩ := h
  · cases hj
  · cases hj; exact ⟨hge, lt_of_block hb⟩
set_option maxRecDepth 100000 in
set_option maxHeartbeats 2000000 in
theorem rgsum_any {w : World} {h : List B8} {v1 v2 : Value} {aad text : List Nat} (hh : h.length = 16) (h1 : Bs w v1 aad) (h2 : Bs w v2 text) (l1 : aad.length ≤ 10000) (l2 : text.length ≤ 10000) :
    Calls Try.prog 15 #[.agg (u8s (nts h)).toArray, v1, v2] w fun e w' => e = .returned (.agg (u8s (nts (gsum h aad text))).toArray) ∧ But (fun _ => False) w w' := by
  have hz := zeroG
  obtain ⟨Z, hZ⟩ : ∃ Z, Z = (u8s (List.replicate 16 0)).toArray := ⟨_, rfl⟩
  rw [← hZ] at hz
  obtain ⟨C, hC⟩ : ∃ C, C = (u8s (nts h)).toArray := ⟨_, rfl⟩
  rw [← hC]
  have HZ := Hid.mk' hZ
  have HC := Hid.mk' hC
  have HAL := Hid.mk' (gall_lt h1.1 h2.1)
  obtain ⟨g, hg⟩ : ∃ g, g = w.heap.size := ⟨_, rfl⟩
  obtain ⟨W0, hW0⟩ : ∃ W0, W0 = ((w.alloc (.cells C 22)).alloc (.cells Z 22)) := ⟨_, rfl⟩
  have hT0 : But (fun _ => False) w W0 := by rw [hW0]; exact ((But.refl _ w).alloc _).alloc _
  have HK0 := Hid.mk' (show Blk W0 g 22 (u8s (nts h)) by rw [hW0, hC]; exact (Blk.new hg.symm).but ((But.refl (fun _ => False) _).alloc _) (fun h => h))
  have HR0 := Hid.mk' (show Blk W0 (g + 1) 22 (u8s (List.replicate 16 0)) by rw [hW0, hZ]; exact Blk.new (by simp [hg]))
  have HB1 := Hid.mk' (rgblocks_any (h1.but hT0 (fun _ _ _ h => h)) (by omega))
  have HV2 := Hid.mk' (h2.but hT0 (fun _ _ _ h => h))
  have HT0 := Hid.mk' hT0
  have HG := Hid.mk' hg
  have HW0 := Hid.mk' hW0
  obtain ⟨ao1, c1, rfl⟩ : ∃ ao c, v1 = .slice ao aad.length c := by obtain ⟨ao, c, e, -, -⟩ := h1.gen; exact ⟨ao, c, e⟩
  obtain ⟨ao2, c2, rfl⟩ : ∃ ao c, v2 = .slice ao text.length c := by obtain ⟨ao, c, e, -, -⟩ := h2.gen; exact ⟨ao, c, e⟩
  have HHN : Hid ((nts h).length = 16) := by show _ = _; rw [nts_len]; exact hh
  have HHL := Hid.mk' hh
  obtain ⟨A, hA⟩ : ∃ A, A = aad.length := ⟨_, rfl⟩
  obtain ⟨T, hT⟩ : ∃ T, T = text.length := ⟨_, rfl⟩
  have HA := Hid.mk' hA
  have HT := Hid.mk' hT
  rw [← hA] at HB1 l1 ⊢
  rw [← hT] at HV2 l2 ⊢
  clear h1 h2 hh hZ hC hg hW0 hT0 hA hT
  go_enter Try.func15, Try.ntmps15
  go_wp2_with fail
  rw [← HW0.out, ← HG.out]
  refine Calls.mono HB1.out ?_
  rintro e w1 ⟨vA, rfl, hoA, hb1⟩
  have HO1 := Hid.mk' hoA
  have HT1 := Hid.mk' hb1
  have HB2 := Hid.mk' (rgblocks_any (HV2.out.but hb1 (fun _ _ _ h => h)) (by rw [← HT.out]; omega))
  rw [← HT.out] at HB2
  clear hoA hb1 HB1 HV2
  go_wp2_with fail
  refine Calls.mono HB2.out ?_
  rintro e w2 ⟨vT, rfl, hoT, hb2⟩
  have hs1 : W0.heap.size ≤ w2.heap.size := Nat.le_trans HT1.out.size hb2.size
  obtain ⟨vL, w3, hrun, hoL, hgr⟩ := append_blocks 51 (ownsRow_but HO1.out hb2 (fun _ _ h => h)) hoT (by unfold nblk; omega) hs1
  have HRUN := Hid.mk' hrun
  have hb3 : But (fun j => vA.ownBlock = some j) w2 w3 := but_grown hgr
  have HSZ : Hid (W0.heap.size ≤ w3.heap.size) := Nat.le_trans hs1 hb3.size
  have hvA := own_ge HO1.out
  have hgA : g + 1 < W0.heap.size := HR0.out.lt
  have hgw := HG.out
  have HT2 := Hid.mk' (HT1.out.trans hb2)
  have HI3 : Hid (SumI w g h W0.heap.size vL (nblk A + nblk T) (padB aad ++ padB text) w3) := by
    refine ⟨(HK0.out.but HT2.out (fun h => h)).but hb3 (fun e => ?_), (HR0.out.but HT2.out (fun h => h)).but hb3 (fun e => ?_), hoL, (HT0.out.trans HT2.out).then hb3 (fun j hj e => ?_)⟩
    · have := (hvA _ e).1; omega
    · have := (hvA _ e).1; omega
    · have := (hvA _ e).1; omega
  clear hoT hb2 hs1 hrun hoL hgr hb3 hvA hgA hgw HT2 HB2 HO1 HT1
  go_wp2_with (first
    | (refine wpList_append_ran rfl _ _ _ rfl vA vT rfl rfl HRUN.out ?_)
    | fail)
  obtain ⟨gl, hgl⟩ : ∃ gl, gl = w3.heap.size := ⟨_, rfl⟩
  obtain ⟨w4, hw4⟩ : ∃ w4, w4 = w3.alloc (.cells Z 22) := ⟨_, rfl⟩
  rw [← hw4, ← hgl]
  have hb4 : But (fun _ => False) w3 w4 := by rw [hw4]; exact (But.refl _ w3).alloc _
  have HI4 := Hid.mk' (HI3.out.then hb4 (fun h => h) (fun h => h) (fun _ _ h => h) (fun _ _ h => h))
  have HL4 := Hid.mk' (show Blk w4 gl 22 (u8s (partL A T 0)) by rw [hw4, HZ.out, partL_zero]; exact Blk.new hgl.symm)
  have HGL : Hid (g + 1 < gl ∧ (∀ j, vL.ownBlock = some j → j < gl) ∧ w.heap.size ≤ gl ∧ W0.heap.size ≤ gl) := by
    rw [hgl]
    exact ⟨HI3.out.res.lt, fun j hj => (own_ge HI3.out.own j hj).2, HI3.out.but.size, HSZ.out⟩
  clear hgl hw4 hb4 HI3 HRUN
  go_loopw [9] (fun i wr => ∃ k : Nat, k ≤ 8 ∧ i = .int .i64 k ∧ SumI w g h W0.heap.size vL (nblk A + nblk T) (padB aad ++ padB text) wr ∧ Blk wr gl 22 (u8s (partL A T k))) (fun i _ => 8 - (intOf i).toNat)
  case atStart => exact ⟨0, by decide, rfl, HI4.out, HL4.out⟩
  case round =>
    obtain ⟨k, hk, rfl, hI, hB⟩ := hrel
    have HI := Hid.mk' hI
    have HB := Hid.mk' hB
    clear hI hB HI4 HL4
    by_cases hlt : k < 8
    · have hki : (k : Int) < 8 := by omega
      obtain ⟨s, hs⟩ : ∃ s, s = 56 - 8 * k := ⟨_, rfl⟩
      have w1 : (56 : Int) - 8 * (k : Int) = (s : Int) := by omega
      have hs57 : s ≤ 56 := by omega
      obtain ⟨m, hm⟩ : ∃ m, m = 8 + k := ⟨_, rfl⟩
      have w2 : (8 : Int) + (k : Int) = (m : Int) := by omega
      have hm16 : (m : Int) < 16 := by omega
      have HS := Hid.mk' hs
      have HM := Hid.mk' hm
      obtain ⟨y1, hy1⟩ : ∃ y, y = (partL A T k).getD k 0 := ⟨_, rfl⟩
      have c1 : wr.cell? ⟨gl, k, none⟩ = some (.int .u8 (y1 : Nat)) := by rw [HB.out.cell, hy1]; exact u8s_get _ k (by rw [partL_len]; omega)
      have f1 := HB.out.free k
      have HV1 : Hid ((8 : Int) * (A : Int) / 2 ^ s % 256 = (lenB A k : Int)) := by show _ = _; unfold lenB; rw [← hs]; simp
      have HV2 : Hid ((8 : Int) * (T : Int) / 2 ^ s % 256 = (lenB T k : Int)) := by show _ = _; unfold lenB; rw [← hs]; simp
      clear hs hm hy1
      go_upto_region 7 with fail
      rw [HV1.out]
      obtain ⟨w5, hw5⟩ : ∃ w5, w5 = wr.setCell ⟨gl, k, none⟩ (.int .u8 (lenB A k : Int)) := ⟨_, rfl⟩
      rw [← hw5]
      have hb5 : But (· = gl) wr w5 := by rw [hw5]; exact (But.refl (· = gl) wr).setCell (p := ⟨gl, k, none⟩) (fun _ => rfl) _
      have HB5 := Hid.mk' (show Blk w5 gl 22 (u8s (partL' A T k)) by rw [hw5]; unfold partL'; rw [← u8s_set]; exact HB.out.set k _)
      have HI5 := Hid.mk' (HI.out.then hb5 (show ¬ (g = gl) by have := HGL.out.1; omega) (show ¬ (g + 1 = gl) by have := HGL.out.1; omega) (fun j hj => show ¬ (j = gl) by have := HGL.out.2.1 j hj; omega) (fun j hj => show ¬ (j = gl) by have := HGL.out.2.2.1; omega))
      obtain ⟨y2, hy2⟩ : ∃ y, y = (partL' A T k).getD m 0 := ⟨_, rfl⟩
      have c2 : w5.cell? ⟨gl, m, none⟩ = some (.int .u8 (y2 : Nat)) := by rw [HB5.out.cell, hy2]; exact u8s_get _ m (by unfold partL'; rw [List.length_set, partL_len]; omega)
      have f2 := HB5.out.free m
      generalize (lenB A k : Int) = q1
      clear hw5 hb5 c1 f1 hy2 HI HB
      go_wp2
      refine ⟨⟨k + 1, by omega, by go_num, ?_, ?_⟩, by simp [intOf]; omega⟩
      · have hb6 : But (· = gl) w5 (w5.setCell ⟨gl, m, none⟩ (.int .u8 (8 * (T : Int) / 2 ^ s % 256))) := (But.refl (· = gl) w5).setCell (p := ⟨gl, m, none⟩) (fun _ => rfl) _
        exact HI5.out.then hb6 (show ¬ (g = gl) by have := HGL.out.1; omega) (show ¬ (g + 1 = gl) by have := HGL.out.1; omega) (fun j hj => show ¬ (j = gl) by have := HGL.out.2.1 j hj; omega) (fun j hj => show ¬ (j = gl) by have := HGL.out.2.2.1; omega)
      · rw [HV2.out, ← partL_set A T k hlt, ← HM.out, ← u8s_set]
        exact HB5.out.set m _
    · have hk8 : k = 8 := by omega
      subst hk8
      rw [partL_all] at HB
      have HLN := Hid.mk' (lastB_len A T)
      obtain ⟨LB, hLB⟩ : ∃ LB, LB = lastB A T := ⟨_, rfl⟩
      rw [← hLB] at HB HLN
      have HLE := Hid.mk' hLB
      obtain ⟨V, hV⟩ : ∃ V, V = (u8s LB).toArray := ⟨_, rfl⟩
      have hbs : (Instr.buildSlice 51 1 #[(0, .agg V)]).run Try.prog wr = .ok (.slice (some ⟨wr.heap.size, 0, none⟩) 1 1) (wr.alloc (.cells V 22)) := by rw [hV]; exact build16 wr LB HLN.out
      have hbw : But (fun _ => False) wr (wr.alloc (.cells V 22)) := (But.refl _ wr).alloc _
      have hsrc : (wr.alloc (.cells V 22)).ownsRow wr.heap.size 22 16 (.slice (some ⟨wr.heap.size, 0, none⟩) 1 1) 1 (u8s LB) := by
        have h := World.ownsRow_lit (base := wr.heap.size) (size := 16) (e := 22) wr V 1 (Nat.le_refl _) (by decide) (by rw [hV]; simp [u8s, HLN.out])
        rw [hV] at h ⊢
        simpa using h
      obtain ⟨vM, w6, hrun, hoM, hgr⟩ := append_blocks 51 (ownsRow_but HI.out.own hbw (fun _ _ h => h)) hsrc (by unfold nblk; omega) (by simp; have := HB.out.lt; have := HGL.out.2.2.2; omega)
      have HRUN := Hid.mk' hrun
      have hb6 : But (fun j => vL.ownBlock = some j) wr w6 := (hbw.mono (fun _ _ h => h.elim)).trans (but_grown hgr)
      have hvL := own_ge HI.out.own
      have HI6 : Hid (SumI w g h W0.heap.size vM (nblk A + nblk T + 1) (gall aad text) w6) := by
        refine ⟨HI.out.key.but hb6 (fun e => ?_), HI.out.res.but hb6 (fun e => ?_), ?_, HI.out.but.then hb6 (fun j hj e => ?_)⟩
        · have := (hvL _ e).1; have := HR0.out.lt; omega
        · have := (hvL _ e).1; have := HR0.out.lt; omega
        · unfold gall; rw [← HA.out, ← HT.out, ← HLE.out]; exact hoM
        · have := (hvL _ e).1; have := HR0.out.lt; have := HG.out; omega
      have HBL := Hid.mk' (HB.out)
      have HVV := Hid.mk' hV
      clear hLB hV hbw hsrc hrun hoM hgr hb6 hvL HI HGL
      have HBS := Hid.mk' hbs
      clear hbs
      go_upto_region 9 with (first
        | (refine wpList_load_u8s Try.underlying22 i16g rfl _ rfl gl LB HLN.out rfl HBL.out ?_
           rw [← HVV.out]
           refine wpList_plain rfl (fun K hK => op_row1 51 _ _ _ rfl rfl HBS.out (hK _ _ ?_))
           refine wpList_append_ran rfl _ _ _ rfl vL (.slice (some ⟨wr.heap.size, 0, none⟩) 1 1) rfl rfl HRUN.out ?_)
        | fail)
      obtain ⟨ng, hng⟩ : ∃ ng, ng = nblk A + nblk T + 1 := ⟨_, rfl⟩
      rw [← hng] at HI6
      have HNG := Hid.mk' hng
      have hng2 : ng ≤ 2000 := by rw [hng]; unfold nblk; omega
      have hng0 : 0 < ng := by omega
      obtain ⟨LL, hLL⟩ : ∃ LL, LL = gall aad text := ⟨_, rfl⟩
      rw [← hLL] at HI6 HAL
      have HLL : Hid (LL.length = ng * 16) := by show _ = _; rw [hLL, gall_len, ← HA.out, ← HT.out, hng]
      have HLG := Hid.mk' hLL
      obtain ⟨gM, cM, curM, hvM, hgM, hblM, -, -, hszM, htkM⟩ : ∃ gM cM curM, vM = .slice (some ⟨gM, 0, none⟩) ng cM ∧ W0.heap.size ≤ gM ∧ w6.heap[gM]? = some (.cells curM 22 (0, 0)) ∧ ng ≤ cM ∧ cM ≤ maxLen ∧ curM.size = cM * 16 ∧ curM.toList.take (ng * 16) = u8s LL := by
        obtain ⟨-, h | h⟩ := HI6.out.own
        · have := h.2; omega
        · exact h
      have HML : Hid (∀ w', But (fun _ => False) w6 w' ∨ True → w'.heap[gM]? = some (.cells curM 22 (0, 0)) → ∀ k, k < ng → ∀ j v, (u8s (nts (blkAt LL k)))[j]? = some v → w'.cell? ((⟨gM, k * 16, none⟩ : Addr).add j) = some v) := by
        intro w' _ hbw' k hk j v hv
        obtain ⟨hj, hc⟩ := blkAt_cell HAL.out k (by rw [HLL.out]; omega) j v hv
        have e : (⟨gM, k * 16, none⟩ : Addr).add j = ⟨gM, 16 * k + j, none⟩ := by rw [Nat.mul_comm]; simp [Addr.add]
        rw [e, cell_of_row w' gM _ _ _ _ hbw', ← Array.getElem?_toList]
        rw [← htkM, List.getElem?_take, if_pos (by omega)] at hc
        exact hc
      subst hvM
      have HGM := Hid.mk' (And.intro hgM (lt_of_block hblM))
      have HBM := Hid.mk' hblM
      have HK6 := Hid.mk' HI6.out.key
      have HR6 := Hid.mk' HI6.out.res
      have HT6 := Hid.mk' HI6.out.but
      clear hgM hblM hszM htkM hng hLL HI6 HRUN HBS HBL
      obtain ⟨gy, hgy⟩ : ∃ gy, gy = w6.heap.size := ⟨_, rfl⟩
      have HJ0 : Hid (SumJ w g h gM curM gy (gsumN h LL 0) (w6.alloc (.cells Z 22))) := by
        have ha : But (fun _ => False) w6 (w6.alloc (.cells Z 22)) := (But.refl _ w6).alloc _
        refine ⟨HK6.out.but ha (fun h => h), HR6.out.but ha (fun h => h), (ha.block gM (lt_of_block HBM.out) (fun h => h)).trans HBM.out, ?_, HT6.out.trans ha⟩
        show Blk _ _ _ (u8s (nts gzero))
        rw [show nts gzero = List.replicate 16 0 by decide, HZ.out]
        exact Blk.new hgy.symm
      have HGY : Hid (g + 1 < gy ∧ gM < gy ∧ w.heap.size ≤ gy) := by
        rw [hgy]
        exact ⟨HR6.out.lt, HGM.out.2, HT6.out.size⟩
      go_wp2
      rw [← hgy]
      generalize w6.alloc (.cells Z 22) = W7 at *
      clear hgy hz HK6 HR6 HT6 HBM HGM
      go_loopw [11] (fun i wr => ∃ k : Nat, k ≤ ng ∧ i = .int .i64 k ∧ SumJ w g h gM curM gy (gsumN h LL k) wr) (fun i _ => ng - (intOf i).toNat)
      case atStart => exact ⟨0, by omega, rfl, HJ0.out⟩
      case round =>
        obtain ⟨k, hk, rfl, hJ⟩ := hrel
        obtain ⟨y, hy⟩ : ∃ y, y = gsumN h LL k := ⟨_, rfl⟩
        have HYL : Hid (y.length = 16) := by show _ = _; rw [hy, gsumN_len]
        have HYN : Hid ((nts y).length = 16) := by show _ = _; rw [nts_len]; exact HYL.out
        rw [← hy] at hJ
        have HYE := Hid.mk' hy
        have HJ := Hid.mk' hJ
        clear hJ hy HJ0
        by_cases hlt : k < ng
        · have hki : (k : Int) < (ng : Int) := by omega
          obtain ⟨B, hB⟩ : ∃ B, B = blkAt LL k := ⟨_, rfl⟩
          have HBN : Hid (B.length = 16) := by show _ = _; rw [hB, blkAt_len]
          have HBN2 : Hid ((nts B).length = 16) := by show _ = _; rw [nts_len]; exact HBN.out
          have HBC : Hid (∀ w', But (fun _ => False) wr w' → ∀ j v, (u8s (nts B))[j]? = some v → w'.cell? ((⟨gM, k * 16, none⟩ : Addr).add j) = some v) := by
            intro w' hw'
            rw [hB]
            exact HML.out w' (.inr trivial) (HJ.out.then hw').row k hlt
          have HBE := Hid.mk' hB
          clear hB
          go_upto_region 13 with fail
          refine region_class (l := [_, _, _, _, _, _, _, _]) (o := _) (fun w' => But (fun _ => False) wr w') (by kernel_rfl) (by kernel_rfl) (by kernel_rfl) rfl (by kernel_rfl) (by kernel_rfl) ((But.refl _ wr).drew) ?_
          refine class_val (.agg (u8s (nts y)).toArray) rfl (fun w' hw' => run_load16 HYN.out (blk_add (HJ.out.then hw').acc) rfl rfl) ?_
          intro K hK; go_simp; refine hK _ ?_; clear hK K
          refine class_val _ rfl (fun w' _ => rfl) ?_
          intro K hK; go_simp; refine hK _ ?_; clear hK K
          refine class_val _ rfl (fun w' _ => rfl) ?_
          intro K hK; go_simp; refine hK _ ?_; clear hK K
          refine class_val (.pointer (some ⟨gM, k * 16, none⟩)) rfl (fun w' _ => by go_simp) ?_
          intro K hK; go_simp; refine hK _ ?_; clear hK K
          refine class_val (.agg (u8s (nts B)).toArray) rfl (fun w' hw' => run_load16 HBN2.out (HBC.out w' hw') rfl rfl) ?_
          intro K hK; go_simp; refine hK _ ?_; clear hK K
          refine class_call (.agg (u8s (nts (gadd y B))).toArray) 12 #[.agg (u8s (nts y)).toArray, .agg (u8s (nts B)).toArray] rfl (fun w' _ => by kernel_rfl) (fun w' hw' => (rgadd_any HYL.out HBN.out).mono (fun e w'' h => ⟨h.1, hw'.trans h.2⟩)) ?_
          intro K hK; go_simp; refine hK _ ?_; clear hK K
          refine class_val (.agg (u8s (nts h)).toArray) rfl (fun w' hw' => run_load16 HHN.out (blk_add (HJ.out.then hw').key) rfl rfl) ?_
          intro K hK; go_simp; refine hK _ ?_; clear hK K
          refine class_call (.agg (u8s (nts (gtimes (gadd y B) h))).toArray) 10 #[.agg (u8s (nts (gadd y B))).toArray, .agg (u8s (nts h)).toArray] rfl (fun w' _ => by kernel_rfl) (fun w' hw' => (rgtimes_any (gadd_len y B) HHL.out).mono (fun e w'' h => ⟨h.1, hw'.trans h.2⟩)) ?_
          intro K hK; go_simp; refine hK _ ?_; clear hK K
          refine wpQuiet_nil ?_
          intro w8 hw8
          have HJ8 := Hid.mk' (HJ.out.then hw8)
          obtain ⟨N, hN⟩ : ∃ N, N = gtimes (gadd y B) h := ⟨_, rfl⟩
          have HNN : Hid ((nts N).length = 16) := by show _ = _; rw [hN, nts_len, gtimes_len]
          rw [← hN]
          have HNE := Hid.mk' hN
          have HYU : Hid ((u8s (nts y)).length = 16) := by show _ = _; unfold u8s; rw [List.length_map]; exact HYN.out
          clear hN
          go_wp2_with (refine wpList_store_u8s i16g rfl _ _ rfl gy (nts N) HNN.out rfl (by exact rfl) _ HYU.out HJ8.out.acc ?_; intro w9 hb9 hbut9)
          refine ⟨⟨k + 1, by omega, by go_num, ?_⟩, by simp [intOf]; omega⟩
          have e : gsumN h LL (k + 1) = N := by
            show gtimes (gadd (gsumN h LL k) (blkAt LL k)) h = N
            rw [← HYE.out, ← HBE.out, HNE.out]
          rw [e]
          exact HJ8.out.put hbut9 hb9 HGY.out.1 HGY.out.2.1 HGY.out.2.2
        · have hkn : k = ng := by omega
          subst hkn
          go_wp2_with (first
            | (refine wpList_load_u8s Try.underlying22 i16g rfl _ rfl gy (nts y) HYN.out rfl HJ.out.acc ?_)
            | (refine wpList_store_u8s i16g rfl _ _ rfl (g + 1) (nts y) HYN.out rfl (by exact rfl) _ (by simp [u8s]) HJ.out.res ?_; intro w9 hb9 hbut9))
          refine bodyPost_ret (results_cell_row rfl _ _ (g + 1) _ _ _ _ rfl hb9 Try.underlying22 rfl (by rw [i16g]; simp [u8s, HYN.out])) rfl ⟨?_, HJ.out.but.then hbut9 (fun j hj e => by have := HG.out; omega)⟩
          unfold gsum
          rw [← HA.out, ← HT.out, ← HNG.out, ← HLG.out, ← HYE.out]
end Go.Proofs.Ytpdkdeebdhdhgaa
