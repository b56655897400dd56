/- The reference's Decrypt. -/
import Derived.Test.YtdlalpklopnpjaaRefEnc
namespace Go.Proofs.Ytdlalpklopnpjaa
open Go.RowKit

def srcOf (i : Nat) : Nat := 4 * ((i / 4 + (4 - i % 4)) % 4) + i % 4
def dstOf (m : Nat) : Nat := 4 * ((m / 4 + m % 4) % 4) + m % 4
theorem src_dst : ∀ m, m < 16 → dstOf m < 16 ∧ srcOf (dstOf m) = m ∧ ∀ i, i < 16 → srcOf i = m → i = dstOf m := by decide
def partUnsubs (b : List B8) (m : Nat) : List B8 := mk16 fun i => if srcOf i < m then bk (at8 b (srcOf i)) else 0
theorem partUnsubs_len (b : List B8) (m : Nat) : (partUnsubs b m).length = 16 := mk16_len _
theorem partUnsubs_zero (b : List B8) : partUnsubs b 0 = List.replicate 16 0 := by
  refine at8_ext (partUnsubs_len _ _) (by simp) (fun i hi => ?_)
  have e : at8 (List.replicate 16 (0 : B8)) i = 0 := by unfold at8 List.getD; rw [List.getElem?_replicate, if_pos hi]; rfl
  unfold partUnsubs; rw [mk16_at _ i hi, if_neg (Nat.not_lt_zero _), e]
theorem src_lt : ∀ i, i < 16 → srcOf i < 16 := by decide
theorem partUnsubs_all (b : List B8) : partUnsubs b 16 = unsubs b := by
  refine at8_ext (partUnsubs_len _ _) (unsubs_len _) (fun i hi => ?_)
  unfold partUnsubs unsubs; rw [mk16_at _ i hi, mk16_at _ i hi, if_pos (src_lt i hi)]; rfl
theorem partUnsubs_set (b : List B8) (m : Nat) (h : m < 16) : (partUnsubs b m).set (dstOf m) (bk (at8 b m)) = partUnsubs b (m + 1) := by
  obtain ⟨h1, h2, h3⟩ := src_dst m h
  refine at8_ext (by rw [List.length_set]; exact partUnsubs_len _ _) (partUnsubs_len _ _) (fun i hi => ?_)
  rw [at8_set _ _ _ _ (by rw [partUnsubs_len]; exact h1)]
  unfold partUnsubs
  rw [mk16_at _ i hi, mk16_at _ i hi]
  by_cases e : i = dstOf m
  · rw [if_pos e, e, h2, if_pos (Nat.lt_succ_self _)]
  · have hne : srcOf i ≠ m := fun h => e (h3 i hi h)
    rw [if_neg e]
    by_cases h4 : srcOf i < m
    · rw [if_pos h4, if_pos (by omega)]
    · rw [if_neg h4, if_neg (by omega)]
set_option maxRecDepth 100000 in
set_option maxHeartbeats 1000000 in
theorem rdec_any {w : World} {b : List B8} {W : List (List B8)} {v : Value} (hb : b.length = 16) (hW : Wr w v W) (hl : W.length = 44 ∨ W.length = 60) :
    Calls Try.prog 17 #[.agg (keyV v).toArray, .agg (u8s (nts b)).toArray] w fun e w' => e = .returned (.agg (u8s (nts (dec W b))).toArray) ∧ But (fun _ => False) w w' := by
  have hz : ∀ w : World, (zeroValue 23).run Try.prog w = .ok (.agg (u8s (List.replicate 16 0)).toArray) w := fun _ => by kernel_rfl
  obtain ⟨Z, hZ⟩ : ∃ Z, Z = (u8s (List.replicate 16 0)).toArray := ⟨_, rfl⟩
  rw [← hZ] at hz
  obtain ⟨C, hC⟩ : ∃ C, C = (u8s (nts b)).toArray := ⟨_, rfl⟩
  obtain ⟨F, hF⟩ : ∃ F, F = (keyV v).toArray := ⟨_, rfl⟩
  rw [← hC, ← hF]
  have HZ := Hid.mk' hZ
  have HC := Hid.mk' hC
  have HF := Hid.mk' hF
  have HW := Hid.mk' hW
  clear hZ hC hF hW
  obtain ⟨g, hg⟩ : ∃ g, g = w.heap.size := ⟨_, rfl⟩
  obtain ⟨W0, hW0⟩ : ∃ W0, W0 = (((w.alloc (.cells F 32)).alloc (.cells C 23)).alloc (.cells Z 23)) := ⟨_, rfl⟩
  have hI : EncI w g v b W0 := by
    rw [hW0, HC.out, HF.out, HZ.out]
    have al : ∀ (x : World) (o : Obj), But (fun _ => False) x (x.alloc o) := fun x o => (But.refl _ x).alloc o
    refine ⟨?_, ?_, ?_, ((((But.refl _ w).alloc _).alloc _).alloc _)⟩
    · exact ((Blk.new hg.symm).but (al _ _) (fun h => h)).but (al _ _) (fun h => h)
    · exact (Blk.new (by simp [hg])).but (al _ _) (fun h => h)
    · exact Blk.new (by simp [hg])
  have HI := Hid.mk' hI
  have HG := Hid.mk' hg
  have HW0 := Hid.mk' hW0
  obtain ⟨gw, cap, hv, hgw, _⟩ := HW.out
  have HV := Hid.mk' hv
  have c0 : (((w.alloc (.cells F 32)).alloc (.cells C 23)).alloc (.cells Z 23)).cell? ⟨w.heap.size, 0, none⟩ = some (.slice (some ⟨gw, 0, none⟩) W.length cap) := by
    rw [← hW0, ← hg, ← hv, hI.key.cell]; rfl
  obtain ⟨n, hn⟩ : ∃ n, n = W.length := ⟨_, rfl⟩
  rw [← hn] at c0 hl
  obtain ⟨q, hq⟩ : ∃ q, q = n / 4 := ⟨_, rfl⟩
  obtain ⟨L, hL⟩ : ∃ L, L = q - 1 := ⟨_, rfl⟩
  have hL1 : 1 ≤ L := by omega
  have hL2 : L ≤ 14 := by omega
  have HLN : Hid (4 * L + 4 = n) := by show _ = _; omega
  have HN := Hid.mk' hn
  have d1 : Int.tdiv (n : Int) 4 = (q : Int) := by rw [Int.tdiv_eq_ediv_of_nonneg (by omega)]; omega
  have d2 : (n : Int) / 4 = (q : Int) := by omega
  have d3 : (q : Int) - 1 = (L : Int) := by omega
  have HEL : Hid (W.length / 4 - 1 = L) := by show _ = _; rw [← hn, ← hq, ← hL]
  have hq16 : q ≤ 15 := by omega
  have hn60 : n ≤ 60 := by omega
  clear hI hg hW0 hv hn hq hL hl hgw
  go_enter Try.func17, Try.ntmps17
  have HK0 : Hid (Blk (((w.alloc (.cells F 32)).alloc (.cells C 23)).alloc (.cells Z 23)) w.heap.size 32 (keyV v)) := by rw [← HW0.out, ← HG.out]; exact HI.out.key
  have HS0 : Hid (Blk (((w.alloc (.cells F 32)).alloc (.cells C 23)).alloc (.cells Z 23)) (w.heap.size + 1) 23 (u8s (nts b))) := by rw [← HW0.out, ← HG.out]; exact HI.out.st
  have HBL : Hid ((nts b).length = 16) := by show _ = _; rw [nts_len]; exact hb
  have HBL' : Hid ((u8s (nts b)).length = 16) := by show _ = _; unfold u8s; rw [List.length_map, nts_len]; exact hb
  have HB := Hid.mk' hb
  clear hb
  go_wp2
  rw [← HW0.out, ← HG.out, show g + 1 + 1 = g + 2 from rfl]
  clear c0 HK0 HS0 HW0 HBL HBL'
  go_loopw [6] (fun i wr => ∃ k : Nat, k ≤ L ∧ i = .int .i64 (L - k : Nat) ∧ EncI w g v (decR W L b k) wr) (fun i _ => (intOf i).toNat)
  case atStart => exact ⟨0, by omega, rfl, HI.out⟩
  case round =>
    obtain ⟨k, hk, rfl, hI⟩ := hrel
    obtain ⟨S, hS⟩ : ∃ S, S = decR W L b k := ⟨_, rfl⟩
    rw [← hS] at hI
    have HSL : Hid (S.length = 16) := by show _ = _; rw [hS, decR_len W L b HB.out]
    have HSE := Hid.mk' hS
    clear hS HI
    have HI := Hid.mk' hI
    clear hI
    obtain ⟨x, hx⟩ : ∃ x, x = L - k := ⟨_, rfl⟩
    rw [← hx]
    have HX := Hid.mk' hx
    clear hx
    by_cases hlt : k < L
    · have hxl : 1 ≤ (x : Int) := by have := HX.out; omega
      have hxL : x ≤ L := by have := HX.out; omega
      go_wp2_with (first
        | (refine wpList_load_key rfl _ rfl g rfl HI.out.key ?_)
        | (refine wpList_load_u8s Try.underlying23 i16s rfl _ rfl (g + 1) (nts S) (n16 S HSL.out) rfl HI.out.st ?_)
        | fail)
      refine Calls.mono (radd_any (r := x) HSL.out (HW.out.but HI.out.but (fun _ _ h => h)) (by rw [← HN.out]; have := HLN.out; omega) (by rw [← HN.out]; omega)) ?_
      rintro e w1 ⟨rfl, hbut1⟩
      have HI1 := Hid.mk' (HI.out.then hbut1)
      clear hbut1 HI
      obtain ⟨A, hA⟩ : ∃ A, A = addK W x S := ⟨_, rfl⟩
      have HAL : Hid (A.length = 16) := by show _ = _; rw [hA, addK_len]
      have HAE := Hid.mk' hA
      rw [← hA]
      clear hA
      by_cases hm : x < L
      case' pos =>
        have hmi : (x : Int) < (L : Int) := by omega
        go_wp2_with (first
          | (refine wpList_store_u8s i16s rfl _ _ rfl (g + 1) (nts A) (n16 A HAL.out) rfl (by exact rfl) _ (u8l S HSL.out) HI1.out.st ?_; intro w2 hb2 hbut2; have HI2 := Hid.mk' (HI1.out.state HG.out hbut2 hb2))
          | (refine wpList_load_u8s Try.underlying23 i16s rfl _ rfl (g + 1) (nts A) (n16 A HAL.out) rfl HI2.out.st ?_)
          | (refine wpList_build rfl _ _ rfl (by kernel_rfl) ?_; rw [show (Try.prog.built 41 _).getD #[] = (u8s (nts rev)).toArray by kernel_rfl])
          | fail)
        refine Calls.mono (mixed_any HAL.out rfl) ?_
        rintro e w3 ⟨rfl, hbut3⟩
        have HI3 := Hid.mk' (HI2.out.then hbut3)
        clear hbut3 HI2 hb2 hbut2 HI1
        obtain ⟨M, hM⟩ : ∃ M, M = mixBy rev A := ⟨_, rfl⟩
        have HML : Hid (M.length = 16) := by show _ = _; rw [hM, mixBy_len]
        have HME : Hid (M = if x < L then mixBy rev A else A) := by show _ = _; rw [if_pos hm, hM]
        rw [← hM]
        clear hM
        go_wp2_with (first
          | (refine wpList_store_u8s i16s rfl _ _ rfl (g + 1) (nts M) (n16 M HML.out) rfl (by exact rfl) _ (u8l A HAL.out) HI3.out.st ?_; intro w4 hb4 hbut4; have HI4 := Hid.mk' (HI3.out.state HG.out hbut4 hb4))
          | fail)
        clear hb4 hbut4 HI3 hmi
      case' neg =>
        have hmi : ¬ ((x : Int) < (L : Int)) := by omega
        obtain ⟨M, hM⟩ : ∃ M, M = A := ⟨_, rfl⟩
        have HML : Hid (M.length = 16) := by show _ = _; rw [hM]; exact HAL.out
        have HME : Hid (M = if x < L then mixBy rev A else A) := by show _ = _; rw [if_neg hm, hM]
        rw [← hM]
        clear hM
        go_wp2_with (first
          | (refine wpList_store_u8s i16s rfl _ _ rfl (g + 1) (nts M) (n16 M HML.out) rfl (by exact rfl) _ (u8l S HSL.out) HI1.out.st ?_; intro w4 hb4 hbut4; have HI4 := Hid.mk' (HI1.out.state HG.out hbut4 hb4))
          | fail)
        clear hb4 hbut4 HI1 hmi
      all_goals
        obtain ⟨gt, hgt⟩ : ∃ gt, gt = w4.heap.size := ⟨_, rfl⟩
        rw [← hgt]
        have HGT : Hid (g + 2 < gt) := by show _ < _; rw [hgt]; exact HI4.out.res.lt
        have HA : Hid (EncI w g v M (w4.alloc (.cells Z 23))) := HI4.out.then ((But.refl _ _).alloc _)
        have HT : Hid (Blk (w4.alloc (.cells Z 23)) gt 23 (u8s (nts (partUnsubs M 0)))) := by
          rw [partUnsubs_zero, HZ.out]; exact Blk.new hgt.symm
        generalize w4.alloc (.cells Z 23) = W1 at *
        clear hgt HI4
        go_loopw [8] (fun i wr => ∃ c : Nat, c ≤ 4 ∧ i = .int .i64 c ∧ EncI w g v M wr ∧ Blk wr gt 23 (u8s (nts (partUnsubs M (4 * c))))) (fun i _ => 4 - (intOf i).toNat)
        case atStart => exact ⟨0, by decide, rfl, HA.out, HT.out⟩
        case round =>
          obtain ⟨c, hc, rfl, hI, hT⟩ := hrel
          have HI := Hid.mk' hI
          have HT2 := Hid.mk' hT
          clear hI hT HA HT
          obtain ⟨wp, hwp⟩ : ∃ wp, wp = wr := ⟨_, rfl⟩
          subst hwp
          by_cases hc4 : c < 4
          · have hci : (c : Int) < 4 := by omega
            go_wp2
            go_loopw [9] (fun i wr => ∃ r : Nat, r ≤ 4 ∧ i = .int .i64 r ∧ EncI w g v M wr ∧ Blk wr gt 23 (u8s (nts (partUnsubs M (4 * c + r))))) (fun i _ => 4 - (intOf i).toNat)
            case atStart => exact ⟨0, by decide, rfl, HI.out, HT2.out⟩
            case round =>
              obtain ⟨r, hr, rfl, hI, hT⟩ := hrel
              have HI3 := Hid.mk' hI
              have HT3 := Hid.mk' hT
              clear hI hT HI HT2
              by_cases hr4 : r < 4
              · have hri : (r : Int) < 4 := by omega
                obtain ⟨y, hy⟩ : ∃ y, y = (c + r) % 4 := ⟨_, rfl⟩
                have w5 : Int.tmod ((c : Int) + (r : Int)) 4 = (y : Int) := by rw [Int.tmod_eq_emod_of_nonneg (by omega)]; omega
                have w6 : ((c : Int) + (r : Int)) % 4 = (y : Int) := by omega
                have hy4 : y < 4 := by omega
                have c1 := blk_nts HI3.out.st (4 * c + r) (by rw [HML.out]; omega)
                have c2 := key_back HI3.out.key (at8 M (4 * c + r))
                have c3 := blk_nts HT3.out (4 * y + r) (by rw [partUnsubs_len]; omega)
                have hfr := HT3.out.free (4 * y + r)
                have HXX : Hid (4 * y + r = dstOf (4 * c + r)) := by
                  show _ = _
                  unfold dstOf
                  rw [show (4 * c + r) / 4 = c by omega, show (4 * c + r) % 4 = r by omega, hy]
                generalize hX : at8 M (4 * c + r) = X at *
                have HXM := Hid.mk' hX
                have hX2 := b8_lt X
                clear hy hX
                go_wp2
                have hs : But (· = gt) wr (wr.setCell ⟨gt, 4 * y + r, none⟩ (.int .u8 (b8 (bk X) : Nat))) := (But.refl (· = gt) wr).setCell (p := ⟨gt, 4 * y + r, none⟩) (fun _ => rfl) _
                refine ⟨⟨r + 1, by omega, by go_num, HI3.out.put HG.out HGT.out hs, ?_⟩, by simp [intOf]; omega⟩
                rw [← Nat.add_assoc, ← partUnsubs_set M (4 * c + r) (by omega), HXM.out, ← HXX.out]
                exact blk_nts_set HT3.out _ _
              · have hr4 : r = 4 := by omega
                subst hr4
                go_wp2
                refine ⟨⟨c + 1, by omega, by go_num, HI3.out, ?_⟩, by simp [intOf]; omega⟩
                rw [Nat.mul_add]
                exact HT3.out
          · have hc4 : c = 4 := by omega
            subst hc4
            obtain ⟨T, hT⟩ : ∃ T, T = unsubs M := ⟨_, rfl⟩
            rw [show 4 * 4 = 16 from rfl, partUnsubs_all, ← hT] at HT2
            have HTL : Hid (T.length = 16) := by show _ = _; rw [hT, unsubs_len]
            have HTE : Hid (T = decR W L b (k + 1)) := by
              show _ = decStep W L (L - k) (decR W L b k)
              rw [hT, HME.out, HAE.out, HSE.out, HX.out]; rfl
            clear hT
            go_wp2_with (first
              | (refine wpList_load_u8s Try.underlying23 i16s rfl _ rfl gt (nts T) (n16 T HTL.out) rfl HT2.out ?_)
              | (refine wpList_store_u8s i16s rfl _ _ rfl (g + 1) (nts T) (n16 T HTL.out) rfl (by exact rfl) _ (u8l M HML.out) HI.out.st ?_; intro w6 hb6 hbut6)
              | fail)
            have hxx := HX.out
            refine ⟨⟨k + 1, by omega, by rw [hxx]; go_num, ?_⟩, by simp [intOf]; omega⟩
            rw [← HTE.out]
            exact HI.out.state HG.out hbut6 hb6
    · have hkL : k = L := by omega
      have hx0 : x = 0 := by have := HX.out; omega
      subst hx0
      have HEE : Hid (addK W 0 S = dec W b) := by
        show _ = _
        rw [HSE.out, hkL]; unfold dec; rw [HEL.out]
      clear hkL
      go_wp2_with (first
        | (refine wpList_load_key rfl _ rfl g rfl HI.out.key ?_)
        | (refine wpList_load_u8s Try.underlying23 i16s rfl _ rfl (g + 1) (nts S) (n16 S HSL.out) rfl HI.out.st ?_)
        | fail)
      refine Calls.mono (radd_any (r := 0) HSL.out (HW.out.but HI.out.but (fun _ _ h => h)) (by rw [← HN.out]; have := HLN.out; omega) (by rw [← HN.out]; omega)) ?_
      rintro e w1 ⟨rfl, hbut1⟩
      have HI1 := Hid.mk' (HI.out.then hbut1)
      clear hbut1 HI
      obtain ⟨A, hA⟩ : ∃ A, A = addK W 0 S := ⟨_, rfl⟩
      have HAL : Hid (A.length = 16) := by show _ = _; rw [hA, addK_len]
      rw [← hA] at HEE ⊢
      clear hA
      go_wp2_with (first
        | (refine wpList_store_u8s i16s rfl _ _ rfl (g + 2) (nts A) (n16 A HAL.out) rfl (by exact rfl) _ (by simp [u8s]) HI1.out.res ?_; intro w2 hb2 hbut2))
      refine bodyPost_ret (results_cell_row rfl _ _ (g + 2) _ _ _ _ rfl hb2 Try.underlying23 rfl (by rw [i16s]; simp [u8s, n16 A HAL.out])) rfl ⟨by rw [HEE.out], ?_⟩
      exact HI1.out.but.then hbut2 (fun i hi e => by have := HG.out; omega)
end Go.Proofs.Ytdlalpklopnpjaa
