/- Any state under any key is encrypted as the document says, and what is no key is refused. No condition. -/
import Derived.Test.YtdlalpklopnpjaaAesRefFrame
namespace Go.Proofs.Ytdlalpklopnpjaa
open Go.ChangeShapes Go.WideShapes Go.ChangeAt Go.RowKit

theorem Ow.row {w : World} {base g n : Nat} {zs : List Nat} (h : Ow w base (.slice (some ⟨g, 0, none⟩) n n) zs) (hn : zs.length = n) (h0 : 0 < n) : Blk w g 5 (u8s zs) ∧ base ≤ g := by
  obtain ⟨hl, h | ⟨g', cap, cur, hv, hge, hb, -, -, hs, ht⟩⟩ := h.own
  · have := h.2; omega
  · cases hv
    refine ⟨?_, hge⟩
    unfold Blk
    rw [hb, ← ht]
    rw [Nat.mul_one] at hs ht ⊢
    rw [List.take_of_length_le (by simp; omega)]
set_option maxRecDepth 100000 in
set_option maxHeartbeats 4000000 in
theorem aesEncrypts_walk (v : Value) (xs : List Nat) (u : Value) (b : List B8) (w : World) (hv : Bs w v xs ∧ xs.length ≤ 140737488351232) (hb : b.length = 16 ∧ u = .agg (u8s (nts b)).toArray) :
    Calls Try.prog 3 #[v, u] w fun e w' => e = .returned (.bool true) ∧ Below w.heap.size w w' := by
  obtain ⟨hv, hxl⟩ := hv
  obtain ⟨hb, rfl⟩ := hb
  obtain ⟨key, rfl, hk⟩ := hv.key
  clear hv
  have hzk := zeroK
  obtain ⟨Z, hZ⟩ : ∃ Z, Z = zeroKey.toArray := ⟨_, rfl⟩
  rw [← hZ] at hzk
  have HZ := Hid.mk' hZ
  obtain ⟨B, hB⟩ : ∃ B, B = (u8s (nts b)).toArray := ⟨_, rfl⟩
  rw [← hB]
  have HB := Hid.mk' hB
  obtain ⟨g, hg⟩ : ∃ g, g = w.heap.size := ⟨_, rfl⟩
  obtain ⟨W0, hW0⟩ : ∃ W0, W0 = w.alloc (.cells B 23) := ⟨_, rfl⟩
  have HBK := Hid.mk' (show Blk W0 g 23 (u8s (nts b)) by rw [hW0, hB]; exact Blk.new hg.symm)
  have HT0 := Hid.mk' (show But (fun _ => False) w W0 by rw [hW0]; exact (But.refl _ w).alloc _)
  have HK := Hid.mk' (hk.but HT0.out (fun _ _ _ h => h))
  have HBN : Hid ((nts b).length = 16) := by show _ = _; rw [nts_len]; exact hb
  have HBL := Hid.mk' hb
  have HLT := Hid.mk' (lent_any HK.out (by omega))
  obtain ⟨ao, cap, rfl, -, -⟩ := hk.gen
  have HG := Hid.mk' hg
  have HW0 := Hid.mk' hW0
  clear hb hk hB hg hW0 hZ
  by_cases hlen : key.length = 16 ∨ key.length = 32
  · have HLEN := Hid.mk' hlen
    clear hlen
    have HNE : Hid ((nts key).length = 16 ∨ (nts key).length = 32) := by show _ ∨ _; rw [nts_len]; exact HLEN.out
    obtain ⟨n, hn⟩ : ∃ n, n = (nts key).length := ⟨_, rfl⟩
    rw [← hn] at HLT HNE ⊢
    have HNL := Hid.mk' hn
    have hn32 : n ≤ 32 := by have := HNE.out; omega
    rw [← hn] at HK
    clear hn hxl
    go_enter Try.func3, Try.ntmps3
    go_wp2_with fail
    rw [← HW0.out, ← HG.out]
    refine Calls.mono HLT.out ?_
    rintro e w1 ⟨gi, rfl, hgi, how, hbel⟩
    have HO1 := Hid.mk' how
    have HT01 := Hid.mk' (But.of (R := fun _ => False) hbel)
    have HB1 := Hid.mk' (HBK.out.but HT01.out (fun h => h))
    have HT1 := Hid.mk' (HT0.out.trans HT01.out)
    have HGI : Hid (g < gi ∧ gi < w1.heap.size) := ⟨by have := HBK.out.lt; omega, by have := how.ge gi rfl; omega⟩
    have HKA := Hid.mk' (HK.out.but HT01.out (fun _ _ _ h => h))
    have HIN := Hid.mk' (Bs.take (n := n) how.bs (by rw [List.length_append, ← HNL.out]; omega) (fun h => by cases h))
    have HTK : Hid ((nts key ++ [201, 202, 203]).take n = nts key) := by show _ = _; rw [HNL.out]; simp
    rw [HTK.out] at HIN
    have HN := Hid.mk' (anew_any HIN.out HLEN.out)
    clear hgi how hbel HLT HK HBK HT0 HT01 HW0
    go_wp2_with fail
    refine Calls.mono HN.out ?_
    rintro e w2 ⟨gc, gb, gw, rfl, hcph, hge, hbut⟩
    have HB2 := Hid.mk' (HB1.out.but hbut (fun h => h))
    have HT2 := Hid.mk' (HT1.out.trans hbut)
    have HC2 := Hid.mk' hcph
    have HO2 := Hid.mk' (HO1.out.but hbut (fun _ _ _ h => h))
    have HKA2 := Hid.mk' (HKA.out.but hbut (fun _ _ _ h => h))
    have HGE : Hid (gi < gc ∧ gi < gb ∧ gi < gw) := by show _ ∧ _ ∧ _; have := HGI.out; omega
    have HRN := Hid.mk' (rnew_own HKA2.out HLEN.out)
    clear hbut hcph hge HN HIN HKA HB1 HT1 HO1
    go_wp2_with fail
    refine Calls.mono HRN.out ?_
    rintro e w3 ⟨vW, rfl, ⟨hwr, hfresh⟩, hbut2⟩
    obtain ⟨gv, cv, hvw, hgv, -⟩ := id hwr
    have HB3 := Hid.mk' (HB2.out.but hbut2 (fun h => h))
    have HT3 := Hid.mk' (HT2.out.trans hbut2)
    have HC3 := Hid.mk' (HC2.out.grow hbut2)
    have HO3 := Hid.mk' (HO2.out.but hbut2 (fun _ _ _ h => h))
    have HKA3 := Hid.mk' (HKA2.out.but hbut2 (fun _ _ _ h => h))
    have HWR3 := Hid.mk' hwr
    have HON : Hid (∀ u ∈ keyV vW, u.oneCell' = true) := by show ∀ u ∈ keyV vW, u.oneCell' = true; rw [hvw]; exact keyV_one _ _ _
    have HOB : Hid (∀ j, vW.ownBlock = some j → j < w3.heap.size ∧ ¬ j = gi) := by
      intro j hj
      refine ⟨?_, ?_⟩
      · rw [hvw] at hj; cases hj; exact hgv
      · have := hfresh j hj; have := HGI.out; have := HO2.out.ge gi rfl; omega
    clear hwr hbut2 hvw hgv hfresh HB2 HT2 HC2 HO2 HKA2 HRN
    obtain ⟨KL, hKL⟩ : ∃ KL, KL = keyV vW := ⟨_, rfl⟩
    rw [← hKL] at HON ⊢
    have HKN : Hid (KL.length = 513) := by show _ = _; rw [hKL]; exact keyV_len _
    have HKE := Hid.mk' hKL
    clear hKL
    have HK0 : Hid (Blk (w3.alloc (.cells Z 32)) w3.heap.size 32 zeroKey) := by show Blk _ _ _ _; rw [HZ.out]; exact Blk.new rfl
    go_upto_region 6 with (refine wpList_store_key rfl _ _ rfl w3.heap.size KL HKN.out HON.out rfl (by rfl) HK0.out ?_; intro w4 hb4 hbut4)
    obtain ⟨gk, hgk⟩ : ∃ gk, gk = w3.heap.size := ⟨_, rfl⟩
    rw [← hgk] at hb4 hbut4 ⊢
    have hx4 : But (· = gk) w3 w4 := ((But.refl (· = gk) w3).alloc _).trans hbut4
    have hglt : g < gk := by rw [hgk]; exact HB3.out.lt
    have hclt : gc < gk ∧ gb < gk ∧ gw < gk := by rw [hgk]; exact ⟨HC3.out.blk.lt, HC3.out.bxs.lt, HC3.out.wds.elim fun T h => h.lt⟩
    have HGK : Hid (gi < gk) := by show _ < _; rw [hgk]; exact (HO3.out.ge gi rfl).2
    have HB4 := Hid.mk' (HB3.out.but hx4 (show ¬ (g = gk) by omega))
    have HK4 := Hid.mk' hb4
    have HC4 := Hid.mk' (HC3.out.but hx4 (show ¬ (gc = gk) by omega) (show ¬ (gb = gk) by omega) (show ¬ (gw = gk) by omega))
    have HWR4 := Hid.mk' (HWR3.out.but hx4 (fun j hj => show ¬ (j = gk) by have := (HOB.out j hj).1; omega))
    have HT4 := Hid.mk' (HT3.out.then hx4 (fun i hi e => by have := HT3.out.size; omega))
    have hno4 : ∀ j, Value.ownBlock (.slice (some ⟨gi, 0, none⟩) (n + 3) (n + 3)) = some j → j < w3.heap.size → ¬ (j = gk) := by
      intro j hj _ e
      have h1 : gi = j := by simpa [Value.ownBlock] using hj
      have := HGK.out
      omega
    have HO4 := Hid.mk' (HO3.out.but hx4 hno4)
    clear hno4
    have HKA4 := Hid.mk' (HKA3.out.but hx4 (fun j _ hj2 e => by omega))
    have HKP := Hid.mk' (kept_true HKA4.out (by rw [← HNL.out]; exact HO4.out))
    rw [← HNL.out] at HKP
    clear hb4 hbut4 hx4 hgk hglt hclt HB3 HC3 HWR3 HT3 HO3 HKA3 HK0 hzk
    go_wp2_with fail
    refine Calls.mono HKP.out ?_
    rintro e w5 ⟨rfl, d, hw5⟩
    have hd5 : But (fun _ => False) w4 w5 := by rw [hw5]; exact (But.refl _ w4).drewN
    have HB5 := Hid.mk' (HB4.out.but hd5 (fun h => h))
    have HK5 := Hid.mk' (HK4.out.but hd5 (fun h => h))
    have HC5 := Hid.mk' (HC4.out.grow hd5)
    have HWR5 := Hid.mk' (HWR4.out.but hd5 (fun _ _ h => h))
    have HT5 := Hid.mk' (HT4.out.trans hd5)
    have HO5 := Hid.mk' (((HO4.out.but hd5 (fun _ _ _ h => h)).row (by rw [List.length_append, ← HNL.out]; rfl) (by omega)).1)
    clear hw5 hd5 HB4 HK4 HC4 HWR4 HT4 HO4 HKA4 HKP
    go_wp2
    go_loopw [10] (fun i wr => ∃ (k : Nat) (ys : List Nat), k ≤ n ∧ i = .int .i64 k ∧ ys.length = n + 3 ∧ (∀ y ∈ ys, y < 256) ∧ Blk wr gi 5 (u8s ys) ∧ But (· = gi) w5 wr) (fun i _ => n - (intOf i).toNat)
    case atStart => exact ⟨0, nts key ++ [201, 202, 203], by omega, rfl, by rw [List.length_append, ← HNL.out]; rfl, fun y hy => by
        rcases List.mem_append.1 hy with h | h
        · exact nts_lt key y h
        · exact (show ∀ y ∈ [201, 202, 203], y < 256 by decide) y h, HO5.out, But.refl _ _⟩
    case round =>
      obtain ⟨k, ys, hk, rfl, hyl, hys, hby, hbt⟩ := hrel
      by_cases hlt : k < n
      · have hki : (k : Int) < (n : Int) := by omega
        obtain ⟨y, hy⟩ : ∃ y, y = ys.getD k 0 := ⟨_, rfl⟩
        have hy256 : y < 256 := by rw [hy]; exact hys _ (getD_mem ys k (by omega))
        have c1 : wr.cell? ⟨gi, k, none⟩ = some (.int .u8 (y : Nat)) := by rw [hby.cell, hy]; exact u8s_get ys k (by omega)
        have f1 := hby.free k
        have HYL := Hid.mk' hyl
        have HYS := Hid.mk' hys
        have HBY := Hid.mk' hby
        have HBT := Hid.mk' hbt
        obtain ⟨z, hz⟩ : ∃ z, z = (y + 1) % 256 := ⟨_, rfl⟩
        have e1 : IntKind.u8.wrap ((y : Int) + 1) = (z : Int) := by simp [IntKind.wrap, IntKind.bits, IntKind.signed]; omega
        have e2 : ((y : Int) + 1) % 256 = (z : Int) := by omega
        have hz256 : z < 256 := by omega
        clear hy hyl hys hby hbt hz HO5
        go_wp2
        refine ⟨⟨k + 1, ys.set k z, by omega, by go_num, by rw [List.length_set]; exact HYL.out, ?_, ?_, ?_⟩, by simp [intOf]; omega⟩
        · intro x hx
          rcases List.mem_or_eq_of_mem_set hx with h | h
          · exact HYS.out x h
          · omega
        · rw [← u8s_set]; exact HBY.out.set k _
        · exact HBT.out.setCell (p := ⟨gi, k, none⟩) (fun _ => rfl) _
      · have hkn : k = n := by omega
        subst hkn
        obtain ⟨wz, hwz⟩ : ∃ wz, wz = wr := ⟨_, rfl⟩
        subst hwz
        have HZB : Hid (∀ w', But (fun _ => False) wz w' → Blk w' g 23 (u8s (nts b))) := fun w' hw' => (HB5.out.but hbt (show ¬ (g = gi) by have := HGI.out.1; omega)).but hw' (fun h => h)
        have HZK : Hid (∀ w', But (fun _ => False) wz w' → Blk w' gk 32 KL) := fun w' hw' => (HK5.out.but hbt (show ¬ (gk = gi) by have := HGK.out; omega)).but hw' (fun h => h)
        have HZC := Hid.mk' (HC5.out.but hbt (show ¬ (gc = gi) by have := HGE.out; omega) (show ¬ (gb = gi) by have := HGE.out; omega) (show ¬ (gw = gi) by have := HGE.out; omega))
        have HZW := Hid.mk' (HWR5.out.but hbt (fun j hj => (HOB.out j hj).2))
        have HZT := Hid.mk' (HT5.out.then hbt (fun i hi e => by have := HGI.out; have := HG.out; omega))
        have HWL := Hid.mk' (words_lens HLEN.out)
        obtain ⟨W, hW⟩ : ∃ W, W = words key := ⟨_, rfl⟩
        rw [← hW] at HZC HZW HWL
        clear hW hyl hys hby hbt HB5 HK5 HC5 HWR5 HT5 HO5
        obtain ⟨KV, hKV⟩ : ∃ KV, KV = KL.toArray := ⟨_, rfl⟩
        rw [← hKV]
        have HKV := Hid.mk' hKV
        obtain ⟨E, hE⟩ : ∃ E, E = (u8s (nts (enc W b))).toArray := ⟨_, rfl⟩
        have HE1 : Hid (∀ w', But (fun _ => False) wz w' → Calls Try.prog 14 #[.pointer (some ⟨gc, 0, none⟩), .agg B] w' fun e w'' => e = .returned (.agg E) ∧ But (fun _ => False) wz w'') := by
          intro w' hw'
          rw [HB.out]
          exact (encrypt_any (HZC.out.grow hw') HBL.out).mono (fun e w'' h => ⟨by rw [h.1, hE], hw'.trans h.2⟩)
        have HE2 : Hid (∀ w', But (fun _ => False) wz w' → Calls Try.prog 15 #[.agg KV, .agg B] w' fun e w'' => e = .returned (.agg E) ∧ But (fun _ => False) wz w'') := by
          intro w' hw'
          rw [HB.out, HKV.out, HKE.out]
          exact (renc_any HBL.out (HZW.out.but hw' (fun _ _ h => h)) HWL.out).mono (fun e w'' h => ⟨by rw [h.1, hE], hw'.trans h.2⟩)
        have HEQ : Hid (∀ w', (Op.equalIn 10000 23 (.agg E) (.agg E)).run Try.prog w' = .ok true w') := by
          intro w'
          rw [hE, equal16 _ _ (enc_len W b) (enc_len W b) w']; simp
        clear hE hKV
        go_upto_region 12 with fail
        refine region_same (l := [_, _, _, _, _, _, _, _, _, _, _, _, _, _, _, _, _, _, _, _]) (fun w' => But (fun _ => False) wz w') (by kernel_rfl) (by kernel_rfl) ((But.refl _ wz).drew) ?_
        refine guard_val _ rfl (fun w' _ => rfl) ?_
        intro K hK; go_simp; refine hK _ ?_; clear hK K
        refine guard_val (.agg B) rfl (fun w' hw' => by rw [HB.out]; exact run_load_u8s Try.underlying23 i23 (HZB.out w' hw') HBN.out rfl rfl) ?_
        intro K hK; go_simp; refine hK _ ?_; clear hK K
        refine guard_call (.agg E) 14 #[.pointer (some ⟨gc, 0, none⟩), .agg B] rfl (fun w' _ => by kernel_rfl) (fun w' hw' => HE1.out w' hw') ?_
        intro K hK; go_simp; refine hK _ ?_; clear hK K
        refine guard_val (.agg KV) rfl (fun w' hw' => by rw [HKV.out]; exact run_load_key (HZK.out w' hw') HKN.out rfl rfl) ?_
        intro K hK; go_simp; refine hK _ ?_; clear hK K
        refine guard_val (.agg B) rfl (fun w' hw' => by rw [HB.out]; exact run_load_u8s Try.underlying23 i23 (HZB.out w' hw') HBN.out rfl rfl) ?_
        intro K hK; go_simp; refine hK _ ?_; clear hK K
        refine guard_call (.agg E) 15 #[.agg KV, .agg B] rfl (fun w' _ => by kernel_rfl) (fun w' hw' => HE2.out w' hw') ?_
        intro K hK; go_simp; refine hK _ ?_; clear hK K
        refine guard_val (.bool true) rfl (fun w' hw' => by have h := HEQ.out w'; go_simp) ?_
        intro K hK; go_simp; refine hK _ ?_; clear hK K
        refine guard_val _ rfl (fun w' _ => rfl) ?_
        intro K hK; go_simp; refine hK _ ?_; clear hK K
        refine guard_val _ rfl (fun w' _ => rfl) ?_
        intro K hK; go_simp; refine hK _ ?_; clear hK K
        refine guard_val (.agg B) rfl (fun w' hw' => by rw [HB.out]; exact run_load_u8s Try.underlying23 i23 (HZB.out w' hw') HBN.out rfl rfl) ?_
        intro K hK; go_simp; refine hK _ ?_; clear hK K
        refine guard_call (.agg E) 14 #[.pointer (some ⟨gc, 0, none⟩), .agg B] rfl (fun w' _ => by kernel_rfl) (fun w' hw' => HE1.out w' hw') ?_
        intro K hK; go_simp; refine hK _ ?_; clear hK K
        refine guard_val (.agg KV) rfl (fun w' hw' => by rw [HKV.out]; exact run_load_key (HZK.out w' hw') HKN.out rfl rfl) ?_
        intro K hK; go_simp; refine hK _ ?_; clear hK K
        refine guard_val (.agg B) rfl (fun w' hw' => by rw [HB.out]; exact run_load_u8s Try.underlying23 i23 (HZB.out w' hw') HBN.out rfl rfl) ?_
        intro K hK; go_simp; refine hK _ ?_; clear hK K
        refine guard_call (.agg E) 15 #[.agg KV, .agg B] rfl (fun w' _ => by kernel_rfl) (fun w' hw' => HE2.out w' hw') ?_
        intro K hK; go_simp; refine hK _ ?_; clear hK K
        refine guard_val (.bool true) rfl (fun w' hw' => by have h := HEQ.out w'; go_simp) ?_
        intro K hK; go_simp; refine hK _ ?_; clear hK K
        refine guard_val _ rfl (fun w' _ => rfl) ?_
        intro K hK; go_simp; refine hK _ ?_; clear hK K
        refine guard_val _ rfl (fun w' _ => rfl) ?_
        intro K hK; go_simp; refine hK _ ?_; clear hK K
        refine guard_call (.bool true) 12 #[] rfl (fun w' _ => by kernel_rfl) (fun w' hw' => (awake_any w').mono (fun e w'' h => ⟨h.1, hw'.trans h.2⟩)) ?_
        intro K hK; go_simp; refine hK _ ?_; clear hK K
        refine guard_val _ rfl (fun w' _ => rfl) ?_
        intro K hK; go_simp; refine hK _ ?_; clear hK K
        refine guard_val _ rfl (fun w' _ => rfl) ?_
        intro K hK; go_simp; refine hK _ ?_; clear hK K
        refine wpQuiet_nil ?_
        intro w9 hw9
        go_wp2
        go_ret
        exact ⟨rfl, (HZT.out.trans hw9).below (Nat.le_refl _) (fun _ _ h => h)⟩
  · have h16 : (nts key).length ≠ 16 := by rw [nts_len]; omega
    have h32 : (nts key).length ≠ 32 := by rw [nts_len]; omega
    have HL2 := Hid.mk' hxl
    have HL16 := Hid.mk' h16
    have HL32 := Hid.mk' h32
    clear hlen h16 h32 hxl
    obtain ⟨n, hn⟩ : ∃ n, n = (nts key).length := ⟨_, rfl⟩
    rw [← hn] at HLT HK ⊢
    have HNL := Hid.mk' hn
    clear hn
    have hp := ptr_eql_c
    go_enter Try.func3, Try.ntmps3
    go_wp2_with fail
    rw [← HW0.out, ← HG.out]
    refine Calls.mono HLT.out ?_
    rintro e w1 ⟨gi, rfl, -, how, hbel⟩
    have HT01 := Hid.mk' (But.of (R := fun _ => False) hbel)
    have HT1 := Hid.mk' (HT0.out.trans HT01.out)
    have HIN := Hid.mk' (Bs.take (n := n) how.bs (by rw [List.length_append, ← HNL.out]; omega) (fun h => by cases h))
    have HTK : Hid ((nts key ++ [201, 202, 203]).take n = nts key) := by show _ = _; rw [HNL.out]; simp
    rw [HTK.out] at HIN
    have HN := Hid.mk' (anew_none HIN.out HL16.out HL32.out)
    have HRN := Hid.mk' (rnew_none (HK.out.but HT01.out (fun _ _ _ h => h)) HL16.out HL32.out)
    clear how hbel HLT HIN HT01 HT0 HW0
    go_wp2_with fail
    refine Calls.mono HN.out ?_
    rintro e w2 ⟨rfl, hw⟩
    have hw' := hw.symm
    subst hw'
    go_wp2_with fail
    refine Calls.mono HRN.out ?_
    rintro e w2 ⟨rfl, hb2⟩
    have HT2 := Hid.mk' (HT1.out.trans hb2)
    have HK0 : Hid (Blk (w2.alloc (.cells Z 32)) w2.heap.size 32 zeroKey) := by show Blk _ _ _ _; rw [HZ.out]; exact Blk.new rfl
    obtain ⟨KL, hKL⟩ : ∃ KL, KL = zeroKey := ⟨_, rfl⟩
    rw [← hKL]
    have HKN : Hid (KL.length = 513) := by show _ = _; rw [hKL]; exact zeroKey_len
    have HON : Hid (∀ u ∈ KL, u.oneCell' = true) := by show ∀ u ∈ KL, u.oneCell' = true; rw [hKL]; exact zeroKey_one
    clear hb2 HN HRN hKL HT1
    go_wp2_with (first
      | (refine wpList_store_key rfl _ _ rfl w2.heap.size KL HKN.out HON.out rfl (by rfl) HK0.out ?_; intro w3 hb3 hbut3)
      | fail)
    refine Calls.mono (awake_any _) ?_
    rintro e w4 ⟨rfl, hb4⟩
    have HT3 : Hid (But (fun _ => False) w w3) := (HT2.out.trans ((But.refl _ w2).alloc _)).then hbut3 (fun i hi e => by have := HT2.out.size; omega)
    have HT4 := Hid.mk' (HT3.out.trans hb4)
    clear hb4 hbut3 hb3
    go_wp2
    go_ret
    exact ⟨rfl, HT4.out.below (Nat.le_refl _) (fun _ _ h => h)⟩

set_option maxRecDepth 100000 in
theorem aesEncrypts_lifted (os : Os) (started : os.Started) (H : Type) (enc : TypeId × Value → H) :
    ReturnsInHanded {} Try.checked os 3 .any (Rows.aesEncryptsSpec.pre6 enc Try.prog Try.f3 Rows.aesEncryptsRow.domain false) (Rows.aesEncryptsSpec.post enc Try.prog Try.f3 false true false false) := by
  refine returnsInHanded_of_change_sized (C := Try.checked) (by kernel_rfl) started (by kernel_rfl) Try.func3
    (ChangeSpec.witness6 (enc := enc) (C := Try.checked) false ⟨#[], #[.slice none 0 0, .agg #[.int .u8 0, .int .u8 0, .int .u8 0, .int .u8 0, .int .u8 0, .int .u8 0, .int .u8 0, .int .u8 0, .int .u8 0, .int .u8 0, .int .u8 0, .int .u8 0, .int .u8 0, .int .u8 0, .int .u8 0, .int .u8 0]], []⟩ 8 (by kernel_rfl) (by kernel_rfl) (by kernel_rfl) (by kernel_rfl)) ?_
  intro W base args ds gs before hval0 hW hcnd hsz0 _
  have hsz : (DataW.weightsEach Try.prog (Try.f3.params.toList ++ Rows.aesEncryptsSpec.plain.varTypes Try.prog) (ds ++ gs)).all (· ≤ reachBytes) = true := hsz0
  clear hsz0
  have hval : ∀ (j : Nat) t v, Try.f3.params[j]? = some t → args[j]? = some v → Value.okWide Try.prog W .any base t v := hval0
  have hW' := hW
  obtain ⟨p, q, hA0, hV, rfl, hfz, hnd⟩ := hW
  have hA : DataW.TrodAll enc Try.prog W 0 (fun _ => true) true Try.f3.params.toList args.toList ds p := hA0
  rw [Try.params3] at hA hval hsz
  obtain ⟨v0, vs0, d0, ds0, p0, q0, hargs, rfl, rfl, h0, r0⟩ := trodAll_cons hA
  obtain ⟨v1, vs1, d1, ds1, p1, q1, rfl, rfl, rfl, h1, r1⟩ := trodAll_cons r0
  obtain ⟨rfl, rfl, rfl⟩ := trodAll_nil r1
  obtain rfl : args = #[v0, v1] := by cases args; simp_all
  obtain ⟨rfl, rfl⟩ := trodVars_none hV
  have lt0 : ∀ x ∈ p0, x.block < W.heap.size := by obtain ⟨m, hm⟩ := h0; exact DataW.trod_lt m _ _ _ hm
  obtain ⟨z0, w0⟩ := view_bytes Try.underlying22 Try.underlying5 (by kernel_rfl) (by kernel_rfl) (hval 0 22 v0 rfl rfl) h0 lt0 hsz (j := 0) rfl rfl
  have lt1 : ∀ x ∈ p1, x.block < W.heap.size := by obtain ⟨m, hm⟩ := h1; exact DataW.trod_lt m _ _ _ hm
  obtain ⟨z1, w1⟩ := view_arr Try.underlying23 Try.underlying5 (by kernel_rfl) (by kernel_rfl) (hval 1 23 v1 rfl rfl) h1 lt1 hsz (j := 1) rfl rfl
  clear hA0 hval0
  refine (aesEncrypts_walk v0 z0 v1 z1 W w0 w1).mono fun e W' ⟨he, bel⟩ => ?_
  subst he
  exact ⟨_, rfl, _, _, _, [], _, [], hW', trodAll_mk1 (shut_bool Try.underlying4 _), (trodAll_cons_mk (Below.trod (by kernel_rfl) (by kernel_rfl) (of_decide_eq_true (by kernel_rfl)) h0 bel lt0) (trodAll_cons_mk (Below.trod (by kernel_rfl) (by kernel_rfl) (of_decide_eq_true (by kernel_rfl)) h1 bel lt1) trodAll_mk0)), rfl, bel.frame _, fun h => by cases h⟩

theorem aesEncrypts_holds : Rows.AesEncryptsSaid :=
  OpenClaim.holds_of_wide 3 Try.f3 rfl rfl rfl rfl rfl rfl rfl ⟨rfl, rfl, rfl, rfl, rfl⟩ rfl rfl rfl rfl rfl (by kernel_rfl) Try.func3 (by kernel_rfl)
    (of_decide_eq_true (by kernel_rfl)) (by unfold Func.isWrapper; first | (rw [if_pos (by decide +kernel)]; kernel_rfl) | (rw [if_neg (by decide +kernel)]; exact ⟨rfl, rfl⟩))
    (fun os started H enc _ => aesEncrypts_lifted os started H enc)
#print axioms aesEncrypts_holds
end Go.Proofs.Ytdlalpklopnpjaa
