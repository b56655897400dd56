/- A cipher in memory; the program's made, rounds, keyed. -/
import Derived.Test.YtdlalpklopnpjaaAesPut
namespace Go.Proofs.Ytdlalpklopnpjaa
open Go.RowKit

/-- A word as a value. -/
def wv (x : List B8) : Value := .int .u32 (num4 (at8 x 0) (at8 x 1) (at8 x 2) (at8 x 3) : Nat)
/-- A cipher of these words. -/
structure Cph (w : World) (gc gb gw : Nat) (W : List (List B8)) : Prop where
  blk : Blk w gc 50 [.pointer (some ⟨gb, 0, none⟩), .slice (some ⟨gw, 0, none⟩) W.length W.length]
  bxs : Bxs w gb
  wds : ∃ T, Blk w gw T (W.map wv)
  len : W.length = 44 ∨ W.length = 60
theorem Cph.but {R : Nat → Prop} {w w' : World} {gc gb gw : Nat} {W : List (List B8)} (h : Cph w gc gb gw W) (k : But R w w') (h1 : ¬ R gc) (h2 : ¬ R gb) (h3 : ¬ R gw) : Cph w' gc gb gw W :=
  ⟨h.blk.but k h1, h.bxs.but k h2, h.wds.elim fun T hT => ⟨T, hT.but k h3⟩, h.len⟩
theorem Cph.grow {w w' : World} {gc gb gw : Nat} {W : List (List B8)} (h : Cph w gc gb gw W) (k : But (fun _ => False) w w') : Cph w' gc gb gw W := h.but k (fun h => h) (fun h => h) (fun h => h)
theorem Cph.word {w : World} {gc gb gw : Nat} {W : List (List B8)} (h : Cph w gc gb gw W) (i : Nat) (hi : i < W.length) : w.cell? ⟨gw, i, none⟩ = some (wv (W.getD i [])) := by
  obtain ⟨T, hT⟩ := h.wds
  rw [hT.cell, List.getElem?_map]
  simp [List.getD, hi]
theorem made_any {w : World} {gc gb gw : Nat} {W : List (List B8)} (h : Cph w gc gb gw W) :
    Calls Try.prog 24 #[.pointer (some ⟨gc, 0, none⟩)] w fun e w' => e = .returned (.bool true) ∧ w' = w := by
  have c1 : w.cell? ⟨gc, 1, none⟩ = some (.slice (some ⟨gw, 0, none⟩) W.length W.length) := by rw [h.blk.cell]; rfl
  have hl : 0 < (W.length : Int) := by have := h.len; omega
  generalize W.length = n at *
  clear h
  go_enter Try.func24, Try.ntmps24
  go_wp2
  go_ret
  have h0 : 0 < n := by omega
  refine ⟨?_, rfl⟩
  show Ending.returned (.bool (decide (0 < n))) = _
  rw [decide_eq_true h0]
theorem made_nil (w : World) :
    Calls Try.prog 24 #[.pointer none] w fun e w' => e = .returned (.bool false) ∧ w' = w := by
  go_enter Try.func24, Try.ntmps24
  go_wp2
  go_ret
  exact ⟨rfl, rfl⟩
theorem rounds_any {w : World} {gc gb gw : Nat} {W : List (List B8)} (h : Cph w gc gb gw W) :
    Calls Try.prog 25 #[.pointer (some ⟨gc, 0, none⟩)] w fun e w' => e = .returned (.int .i64 ((W.length / 4 - 1 : Nat) : Int)) ∧ w' = w := by
  have c1 : w.cell? ⟨gc, 1, none⟩ = some (.slice (some ⟨gw, 0, none⟩) W.length W.length) := by rw [h.blk.cell]; rfl
  have hl := h.len
  generalize W.length = n at *
  clear h
  obtain ⟨L, hL⟩ : ∃ L, L = n / 4 - 1 := ⟨_, rfl⟩
  rw [← hL]
  have d1 : Int.tdiv (n : Int) 4 = ((L + 1 : Nat) : Int) := by rw [Int.tdiv_eq_ediv_of_nonneg (by omega)]; omega
  have d2 : (n : Int) / 4 = ((L + 1 : Nat) : Int) := by omega
  have hL2 : L ≤ 14 := by omega
  clear hL
  go_enter Try.func25, Try.ntmps25
  go_wp2
  go_ret
  refine ⟨?_, rfl⟩
  refine congrArg (fun x => Ending.returned (.int .i64 x)) ?_
  omega
theorem addK_cols (W : List (List B8)) (r : Nat) (s : List B8) : cols (fun k => xor4 (wordOf s k) (W.getD (4 * r + k) [])) = addK W r s := by
  refine at8_ext (cols_len _) (addK_len _ _ _) (fun i hi => ?_)
  unfold cols addK
  rw [mk16_at _ i hi, mk16_at _ i hi]
  obtain ⟨q, t, ht, e⟩ : ∃ q t, t < 4 ∧ i = 4 * q + t := ⟨i / 4, i % 4, by omega, by omega⟩
  rw [show i / 4 = q by omega, show i % 4 = t by omega, e]
  match t, ht with
  | 0, _ => rfl
  | 1, _ => rfl
  | 2, _ => rfl
  | 3, _ => rfl
/-- What memory is amid keyed. -/
structure KeyI (w : World) (g : Nat) (s : List B8) (wr : World) : Prop where
  src : Blk wr g 57 (u8s (nts s))
  res : Blk wr (g + 1) 57 (u8s (List.replicate 16 0))
  but : But (fun _ => False) w wr
set_option maxRecDepth 100000 in
set_option maxHeartbeats 1000000 in
theorem keyed_any {w : World} {gc gb gw : Nat} {W : List (List B8)} {s : List B8} {r : Nat} (hW : Cph w gc gb gw W) (hs : s.length = 16) (hr : 4 * r + 4 ≤ W.length) :
    Calls Try.prog 26 #[.pointer (some ⟨gc, 0, none⟩), .agg (u8s (nts s)).toArray, .int .i64 r] w fun e w' => e = .returned (.agg (u8s (nts (addK W r s))).toArray) ∧ But (fun _ => False) w w' := by
  have hz := zeroS
  obtain ⟨Z, hZ⟩ : ∃ Z, Z = (u8s (List.replicate 16 0)).toArray := ⟨_, rfl⟩
  rw [← hZ] at hz
  obtain ⟨C, hC⟩ : ∃ C, C = (u8s (nts s)).toArray := ⟨_, rfl⟩
  rw [← hC]
  have HZ := Hid.mk' hZ
  have HC := Hid.mk' hC
  have hn60 := hW.len
  have c1 : w.cell? ⟨gc, 1, none⟩ = some (.slice (some ⟨gw, 0, none⟩) W.length W.length) := by rw [hW.blk.cell]; rfl
  have HW := Hid.mk' hW
  have hgc := hW.blk.lt
  clear hZ hC hW
  obtain ⟨F, hF⟩ : ∃ F, F = fun k => xor4 (wordOf s k) (W.getD (4 * r + k) []) := ⟨_, rfl⟩
  have HF := Hid.mk' hF
  clear hF
  obtain ⟨n, hn⟩ : ∃ n, n = W.length := ⟨_, rfl⟩
  rw [← hn] at c1 hr hn60
  have HN := Hid.mk' hn
  clear hn
  have hr14 : r ≤ 14 := by omega
  have hn2 : n ≤ 60 := by omega
  have hr' : 4 * ((r : Int) + 1) ≤ (n : Int) := by omega
  clear hr hn60
  go_enter Try.func26, Try.ntmps26
  go_wp2
  rw [show 4 * (r + 1) - 4 * r = 4 by omega]
  obtain ⟨g, hg⟩ : ∃ g, g = w.heap.size := ⟨_, rfl⟩
  have hI : KeyI w g (colsTo F s 0) ((w.alloc (.cells C 57)).alloc (.cells Z 57)) := by
    rw [HC.out, HZ.out, colsTo_zero F hs]
    refine ⟨(Blk.new hg.symm).but ((But.refl (fun _ => False) _).alloc _) (fun h => h), Blk.new (by simp [hg]), ((But.refl _ w).alloc _).alloc _⟩
  rw [← hg]
  generalize ((w.alloc (.cells C 57)).alloc (.cells Z 57)) = W0 at *
  have HI := Hid.mk' hI
  have HG := Hid.mk' hg
  clear hI hg hz HZ HC
  rw [show (((4 : Nat) : Int)) = 4 from rfl]
  go_loopw [20] (fun i wr => ∃ k : Nat, k ≤ 4 ∧ i = .int .i64 k ∧ KeyI w g (colsTo F s k) wr) (fun i _ => 4 - (intOf i).toNat)
  case atStart => exact ⟨0, by decide, rfl, HI.out⟩
  case round =>
    obtain ⟨k, hk, rfl, hI⟩ := hrel
    obtain ⟨M, hM⟩ : ∃ M, M = colsTo F s k := ⟨_, rfl⟩
    have HML : Hid (M.length = 16) := by show _ = _; rw [hM, colsTo_len]
    rw [← hM] at hI
    have HM := Hid.mk' hM
    have HI2 := Hid.mk' hI
    clear hI HI hM
    by_cases hlt : k < 4
    · have hki : (k : Int) < 4 := by omega
      have c2 := (HW.out.grow HI2.out.but).word (4 * r + k) (by rw [← HN.out]; omega)
      obtain ⟨Y, hY⟩ : ∃ Y, Y = W.getD (4 * r + k) [] := ⟨_, rfl⟩
      rw [← hY] at c2
      have HY := Hid.mk' hY
      have HMW : Hid (wordOf M k = wordOf s k) := by show _ = _; rw [HM.out]; exact colsTo_word F s k hlt
      obtain ⟨x0, hx0⟩ : ∃ x, x = at8 s (4 * k) := ⟨_, rfl⟩
      obtain ⟨x1, hx1⟩ : ∃ x, x = at8 s (4 * k + 1) := ⟨_, rfl⟩
      obtain ⟨x2, hx2⟩ : ∃ x, x = at8 s (4 * k + 2) := ⟨_, rfl⟩
      obtain ⟨x3, hx3⟩ : ∃ x, x = at8 s (4 * k + 3) := ⟨_, rfl⟩
      have hX : wordOf s k = [x0, x1, x2, x3] := by unfold wordOf; rw [hx0, hx1, hx2, hx3]
      rw [hX] at HMW
      unfold wv at c2
      have hxo := xor4n x0 x1 x2 x3 (at8 Y 0) (at8 Y 1) (at8 Y 2) (at8 Y 3)
      have HFK : Hid (F k = [x0 ^^^ at8 Y 0, x1 ^^^ at8 Y 1, x2 ^^^ at8 Y 2, x3 ^^^ at8 Y 3]) := by
        show _ = _
        rw [HF.out]
        show xor4 (wordOf s k) (W.getD (4 * r + k) []) = _
        rw [hX, ← HY.out]; rfl
      have l1 := num4_lt x0 x1 x2 x3
      have l2 := num4_lt (at8 Y 0) (at8 Y 1) (at8 Y 2) (at8 Y 3)
      clear hx0 hx1 hx2 hx3 hX hY
      go_wp2_with (first
        | (refine wpList_load_col rfl _ rfl g (k * 4) k 57 M (by have := HML.out; omega) (by omega) (by rfl) HI2.out.src ?_; rw [HMW.out])
        | fail)
      refine Calls.mono (number_any x0 x1 x2 x3 wr) ?_
      rintro e w1 ⟨rfl, hb1⟩
      have HT1 := Hid.mk' hb1
      clear hb1
      go_wp2_with fail
      refine Calls.mono (columnOf_any _ _ _ _ w1) ?_
      rintro e w2 ⟨rfl, hb2⟩
      have HT2 := Hid.mk' (HT1.out.trans hb2)
      have HS2 := Hid.mk' (HI2.out.src.but HT2.out (fun h => h))
      clear hb2 HT1
      unfold colV
      rw [← HFK.out]
      have HFL : Hid ((F k).length = 4) := by show _ = _; rw [HFK.out]; rfl
      clear HFK hxo
      go_wp2_with (refine wpList_store_col rfl _ _ rfl g (k * 4) k 57 M (F k) HML.out HFL.out hlt (by omega) (by rfl) (by rfl) HS2.out ?_; intro w3 hb3 hbut3)
      refine ⟨⟨k + 1, by omega, by go_num, ?_⟩, by simp [intOf]; omega⟩
      have h := HI2.out
      refine ⟨?_, (h.res.but HT2.out (fun h => h)).but hbut3 (show ¬ (g + 1 = g) by omega), (h.but.trans HT2.out).then hbut3 (fun i hi e => by have := HG.out; omega)⟩
      rw [← colsTo_set _ k hlt HFL.out, ← HM.out]
      exact hb3
    · have hk4 : k = 4 := by omega
      subst hk4
      have HMS : Hid (M = addK W r s) := by show _ = _; rw [HM.out, colsTo_all, HF.out, addK_cols]
      have HNL : Hid ((nts M).length = 16) := by show _ = _; rw [nts_len]; exact HML.out
      go_wp2_with (first
        | (refine wpList_load_u8s Try.underlying57 i57 rfl _ rfl g (nts M) HNL.out rfl HI2.out.src ?_)
        | (refine wpList_store_u8s i57 rfl _ _ rfl (g + 1) (nts M) HNL.out rfl (by exact rfl) _ (by simp [u8s]) HI2.out.res ?_; intro w2 hb2 hbut2))
      refine bodyPost_ret (results_cell_row rfl _ _ (g + 1) _ _ _ _ rfl hb2 Try.underlying57 rfl (by rw [i57]; simp [u8s, HNL.out])) rfl ⟨by rw [HMS.out], ?_⟩
      exact HI2.out.but.then hbut2 (fun i hi e => by have := HG.out; omega)
end Go.Proofs.Ytdlalpklopnpjaa
