/- The reference's add. -/
import Derived.Test.YtdlalpklopnpjaaRefMixed
namespace Go.Proofs.Ytdlalpklopnpjaa
open Go.RowKit

/-- A key's words in memory. -/
def Wr (w : World) (v : Value) (W : List (List B8)) : Prop :=
  ∃ g cap, v = .slice (some ⟨g, 0, none⟩) W.length cap ∧ g < w.heap.size ∧ ∀ i j, i < W.length → j < 4 → w.cell? ⟨g, 4 * i + j, none⟩ = some (.int .u8 (b8 (at8 (W.getD i []) j) : Nat))
theorem Wr.but {R : Nat → Prop} {w w' : World} {v : Value} {W : List (List B8)} (h : Wr w v W) (k : But R w w') (hr : ∀ g, v.ownBlock = some g → ¬ R g) : Wr w' v W := by
  obtain ⟨g, cap, rfl, hg, hc⟩ := h
  refine ⟨g, cap, rfl, Nat.lt_of_lt_of_le hg k.size, fun i j hi hj => ?_⟩
  rw [← hc i j hi hj]
  exact World.cell?_of_block (k.block g hg (hr g rfl))
/-- All boxes, all back boxes. -/
def allBx : List B8 := (List.range 256).map fun i => bx (BitVec.ofNat 8 i)
def allBk : List B8 := (List.range 256).map fun i => bk (BitVec.ofNat 8 i)
theorem allBx_len : allBx.length = 256 := by simp [allBx]
theorem allBk_len : allBk.length = 256 := by simp [allBk]
theorem allBx_at (x : B8) : at8 allBx (b8 x) = bx x := by
  have hx := b8_lt x
  have e : BitVec.ofNat 8 (b8 x) = x := b8_inj (b8_of _ hx)
  simp [at8, allBx, List.getD, hx, e]
theorem allBk_at (x : B8) : at8 allBk (b8 x) = bk x := by
  have hx := b8_lt x
  have e : BitVec.ofNat 8 (b8 x) = x := b8_inj (b8_of _ hx)
  simp [at8, allBk, List.getD, hx, e]
/-- A key as a value. -/
def keyV (v : Value) : List Value := v :: (u8s (nts allBx) ++ u8s (nts allBk))
theorem keyV_len (v : Value) : (keyV v).length = 513 := by
  unfold keyV u8s; rw [List.length_cons, List.length_append, List.length_map, List.length_map, nts_len, nts_len, allBx_len, allBk_len]
def partAdd (W : List (List B8)) (r : Nat) (b : List B8) (k : Nat) : List B8 := mk16 fun i => if i < k then at8 b i ^^^ at8 (W.getD (4 * r + i / 4) []) (i % 4) else at8 b i
theorem partAdd_len (W : List (List B8)) (r : Nat) (b : List B8) (k : Nat) : (partAdd W r b k).length = 16 := mk16_len _
theorem partAdd_zero (W : List (List B8)) (r : Nat) (b : List B8) (hb : b.length = 16) : partAdd W r b 0 = b := by
  refine at8_ext (partAdd_len _ _ _ _) hb (fun i hi => ?_)
  unfold partAdd; rw [mk16_at _ i hi, if_neg (Nat.not_lt_zero _)]
theorem partAdd_all (W : List (List B8)) (r : Nat) (b : List B8) : partAdd W r b 16 = addK W r b := by
  refine at8_ext (partAdd_len _ _ _ _) (addK_len _ _ _) (fun i hi => ?_)
  unfold partAdd addK; rw [mk16_at _ i hi, mk16_at _ i hi, if_pos hi]
theorem partAdd_at (W : List (List B8)) (r : Nat) (b : List B8) (k : Nat) (h : k < 16) : at8 (partAdd W r b k) k = at8 b k := by
  unfold partAdd; rw [mk16_at _ k h, if_neg (Nat.lt_irrefl _)]
theorem partAdd_set (W : List (List B8)) (r : Nat) (b : List B8) (k : Nat) (h : k < 16) : (partAdd W r b k).set k (at8 b k ^^^ at8 (W.getD (4 * r + k / 4) []) (k % 4)) = partAdd W r b (k + 1) := by
  refine at8_ext (by rw [List.length_set]; exact partAdd_len _ _ _ _) (partAdd_len _ _ _ _) (fun i hi => ?_)
  rw [at8_set _ _ _ _ (by rw [partAdd_len]; exact h)]
  unfold partAdd
  rw [mk16_at _ i hi, mk16_at _ i hi]
  by_cases h2 : i = k
  · subst h2; rw [if_pos rfl, if_pos (Nat.lt_succ_self _)]
  · rw [if_neg h2]
    by_cases h3 : i < k
    · rw [if_pos h3, if_pos (by omega)]
    · rw [if_neg h3, if_neg (by omega)]
/-- What memory is amid add. -/
structure AddI (w : World) (g : Nat) (v : Value) (W : List (List B8)) (r : Nat) (b : List B8) (k : Nat) (wr : World) : Prop where
  key : Blk wr g 32 (keyV v)
  out : Blk wr (g + 1) 23 (u8s (nts (partAdd W r b k)))
  res : Blk wr (g + 2) 23 (u8s (List.replicate 16 0))
  but : But (fun _ => False) w wr
set_option maxRecDepth 100000 in
set_option maxHeartbeats 1000000 in
theorem radd_any {w : World} {b : List B8} {W : List (List B8)} {v : Value} {r : Nat} (hb : b.length = 16) (hW : Wr w v W) (hr : 4 * r + 4 ≤ W.length) (hl : W.length ≤ 100) :
    Calls Try.prog 32 #[.agg (keyV v).toArray, .agg (u8s (nts b)).toArray, .int .i64 r] w fun e w' => e = .returned (.agg (u8s (nts (addK W r b))).toArray) ∧ But (fun _ => False) w w' := by
  have hz : ∀ w : World, (zeroValue 23).run Try.prog w = .ok (.agg (u8s (List.replicate 16 0)).toArray) w := fun _ => by kernel_rfl
  obtain ⟨Z, hZ⟩ : ∃ Z, Z = (u8s (List.replicate 16 0)).toArray := ⟨_, rfl⟩
  rw [← hZ] at hz
  obtain ⟨C, hC⟩ : ∃ C, C = (u8s (nts b)).toArray := ⟨_, rfl⟩
  obtain ⟨F, hF⟩ : ∃ F, F = (keyV v).toArray := ⟨_, rfl⟩
  rw [← hC, ← hF]
  have HZ := Hid.mk' hZ
  have HC := Hid.mk' hC
  have HF := Hid.mk' hF
  have HW := Hid.mk' hW
  clear hZ hC hF hW
  go_enter Try.func32, Try.ntmps32
  go_wp2
  obtain ⟨g, hg⟩ : ∃ g, g = w.heap.size := ⟨_, rfl⟩
  have hI : AddI w g v W r b 0 (((w.alloc (.cells F 32)).alloc (.cells C 23)).alloc (.cells Z 23)) := by
    rw [HC.out, HF.out, HZ.out]
    have al : ∀ (x : World) (o : Obj), But (fun _ => False) x (x.alloc o) := fun x o => (But.refl _ x).alloc o
    refine ⟨?_, ?_, ?_, ((((But.refl _ w).alloc _).alloc _).alloc _)⟩
    · exact ((Blk.new hg.symm).but (al _ _) (fun h => h)).but (al _ _) (fun h => h)
    · rw [partAdd_zero W r b hb]; exact (Blk.new (by simp [hg])).but (al _ _) (fun h => h)
    · exact Blk.new (by simp [hg])
  rw [← hg, show g + 1 + 1 = g + 2 from rfl]
  generalize (((w.alloc (.cells F 32)).alloc (.cells C 23)).alloc (.cells Z 23)) = W0 at *
  have HI := Hid.mk' hI
  have HG := Hid.mk' hg
  clear hI hg hz HZ HC HF
  go_loopw [7] (fun i wr => ∃ k : Nat, k ≤ 16 ∧ i = .int .i64 k ∧ AddI w g v W r b k wr) (fun i _ => 16 - (intOf i).toNat)
  case atStart => exact ⟨0, by decide, rfl, HI.out⟩
  case round =>
    obtain ⟨k, hk, rfl, hI⟩ := hrel
    have HI := Hid.mk' hI
    clear hI
    by_cases hlt : k < 16
    · have hki : (k : Int) < 16 := by omega
      obtain ⟨q, hq⟩ : ∃ q, q = 4 * r := ⟨_, rfl⟩
      obtain ⟨d, hd⟩ : ∃ d, d = k / 4 := ⟨_, rfl⟩
      obtain ⟨m, hm⟩ : ∃ m, m = q + d := ⟨_, rfl⟩
      obtain ⟨t, ht⟩ : ∃ t, t = k % 4 := ⟨_, rfl⟩
      have w1 : IntKind.i64.wrap (4 * (r : Int)) = (q : Int) := by rw [wrap_mid _ (by omega) (by omega)]; omega
      have w2 : Int.tdiv (k : Int) 4 = (d : Int) := by rw [Int.tdiv_eq_ediv_of_nonneg (by omega)]; omega
      have w3 : IntKind.i64.wrap (d : Int) = (d : Int) := wrap_mid _ (by omega) (by omega)
      have w4 : IntKind.i64.wrap ((q : Int) + (d : Int)) = (m : Int) := by rw [wrap_mid _ (by omega) (by omega)]; omega
      have w5 : Int.tmod (k : Int) 4 = (t : Int) := by rw [Int.tmod_eq_emod_of_nonneg (by omega)]; omega
      have ht4 : t < 4 := by omega
      have b2 : (t : Int) < 4 := by omega
      have hmn : m < W.length := by omega
      have hWr := HW.out.but HI.out.but (fun _ _ h => h)
      obtain ⟨gw, cap, rfl, hgw, hcw⟩ := hWr
      have c3 := hcw m t hmn ht4
      have c3' : wr.cell? ⟨gw, m * 4 + t, none⟩ = some (.int .u8 (b8 (at8 (W.getD m []) t) : Nat)) := by rw [Nat.mul_comm]; exact c3
      have c1 := blk_nts HI.out.out k (by rw [partAdd_len]; exact hlt)
      rw [partAdd_at W r b k hlt] at c1
      have c0 : wr.cell? ⟨g, 0, none⟩ = some (.slice (some ⟨gw, 0, none⟩) W.length cap) := by rw [HI.out.key.cell]; rfl
      have hfr := HI.out.out.free k
      have hxor := xor_b8 (at8 b k) (at8 (W.getD m []) t)
      have HX : Hid (at8 b k ^^^ at8 (W.getD m []) t = at8 b k ^^^ at8 (W.getD (4 * r + k / 4) []) (k % 4)) := by
        show _ = _
        rw [show 4 * r + k / 4 = m by omega, ht]
      have hb3 : (m : Int) < (W.length : Int) := by omega
      obtain ⟨n, hn⟩ : ∃ n, n = W.length := ⟨_, rfl⟩
      rw [← hn] at c0 hb3
      have hmn' : m < n := by omega
      clear hq hd hm ht hcw hn
      generalize hX : at8 b k = X at *
      generalize hY : at8 (W.getD m []) t = Y at *
      have HXX := Hid.mk' hX
      clear hX hY
      go_wp2
      refine region_ends (l := [_, _, _, _, _, _, _, _, _, _, _, _, _, _, _, _, _, _]) (o := _) (by kernel_rfl) (by kernel_rfl) (by kernel_rfl) rfl (by kernel_rfl) (by kernel_rfl) ?_
      repeat (quiet_step (fail))
      refine wpQuiet_nil ?_
      intro _ hw'
      obtain ⟨nq, hw''⟩ := hw'
      subst hw''
      go_wp2
      refine ⟨⟨k + 1, by omega, by go_num, ?_⟩, by simp [intOf]; omega⟩
      have h := HI.out
      have hs : But (· = g + 1) wr (wr.setCell ⟨g + 1, k, none⟩ (.int .u8 (b8 (X ^^^ Y) : Nat))) := (But.refl (· = g + 1) wr).setCell (p := ⟨g + 1, k, none⟩) (fun _ => rfl) _
      have hs2 := hs.drewN (n := nq)
      refine ⟨h.key.but hs2 (show ¬ (g = g + 1) by omega), ?_, h.res.but hs2 (show ¬ (g + 2 = g + 1) by omega), h.but.then hs2 (fun i hi e => by have := HG.out; omega)⟩
      rw [← partAdd_set W r b k hlt, HXX.out, ← HX.out]
      exact blk_nts_set h.out k _
    · have hk16 : k = 16 := by omega
      subst hk16
      obtain ⟨h0, h1, h2, hbt⟩ := HI.out
      rw [partAdd_all] at h1
      have H1 := Hid.mk' h1
      have H2 := Hid.mk' h2
      have HBT := Hid.mk' hbt
      clear h0 h1 h2 hbt HI
      obtain ⟨M, hM⟩ : ∃ M, M = addK W r b := ⟨_, rfl⟩
      have HML : Hid ((nts M).length = 16) := by show _ = _; rw [hM, nts_len, addK_len]
      rw [← hM] at H1
      have HM := Hid.mk' hM
      clear hM
      go_wp2_with (first
        | (refine wpList_load_u8s Try.underlying23 i16s rfl _ rfl (g + 1) (nts M) HML.out rfl H1.out ?_)
        | (refine wpList_store_u8s i16s rfl _ _ rfl (g + 2) (nts M) HML.out rfl (by exact rfl) _ (by simp [u8s]) H2.out ?_; intro w2 hb2 hbut2))
      refine bodyPost_ret (results_cell_row rfl _ _ (g + 2) _ _ _ _ rfl hb2 Try.underlying23 rfl (by rw [i16s]; simp [u8s, HML.out])) rfl ⟨by rw [HM.out], ?_⟩
      exact HBT.out.then hbut2 (fun i hi e => by have := HG.out; omega)
end Go.Proofs.Ytdlalpklopnpjaa
