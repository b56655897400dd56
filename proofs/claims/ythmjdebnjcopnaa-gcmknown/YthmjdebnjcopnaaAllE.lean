/- AesWords, AesNew, FieldRefPower, FieldRefBox, RefMixed, RefAdd, RefEnc, RefBoxes, RefNewMem, RefNewNo. -/
import Derived.Test.YthmjdebnjcopnaaAllD
import Derived.Test.YthmjdebnjcopnaaAllA
import Derived.Laws.MakeOwn
import Derived.Test.YthmjdebnjcopnaaAllC
/- The program's wordsOf: the words of a key. -/
namespace Go.Proofs.Ythmjdebnjcopnaa
open Go.RowKit

/-- These words, then words 0. -/
def fillW (L : List (List B8)) (N : Nat) : List Value := L.map wv ++ List.replicate (N - L.length) (.int .u32 0)
theorem fillW_set (L : List (List B8)) (N : Nat) (x : List B8) (h : L.length < N) : (fillW L N).set L.length (wv x) = fillW (L ++ [x]) N := by
  unfold fillW
  obtain ⟨k, hk⟩ : ∃ k, N - L.length = k + 1 := ⟨N - L.length - 1, by omega⟩
  have h1 : L.length = (L.map wv).length := by simp
  rw [hk, List.replicate_succ, List.length_append, List.length_singleton, show N - (L.length + 1) = k by omega, List.map_append, List.append_assoc]
  rw [h1, List.set_append_right _ _ (Nat.le_refl _)]
  simp
theorem fillW_at (L : List (List B8)) (N i : Nat) (h : i < L.length) : (fillW L N)[i]? = some (wv (L.getD i [])) := by
  unfold fillW
  rw [List.getElem?_append_left (by simpa using h), List.getElem?_map]
  simp [List.getD, h]
theorem fillW_next (L : List (List B8)) (N : Nat) (h : L.length < N) : (fillW L N)[L.length]? = some (.int .u32 0) := by
  unfold fillW
  obtain ⟨k, hk⟩ : ∃ k, N - L.length = k + 1 := ⟨N - L.length - 1, by omega⟩
  rw [List.getElem?_append_right (by simp), hk]
  simp
theorem fillW_zero (N : Nat) : fillW [] N = List.replicate N (.int .u32 0) := by simp [fillW]
theorem fillW_all (L : List (List B8)) (N : Nat) (h : L.length = N) : fillW L N = L.map wv := by simp [fillW, h]
theorem val4 (a b c d : B8) : val (nts [a, b, c, d]) = num4 a b c d := by
  show 256 * (256 * (256 * (256 * 0 + b8 a) + b8 b) + b8 c) + b8 d = num4 a b c d
  unfold num4; omega
theorem key_word (key : List B8) (i : Nat) (h : 4 * i + 4 ≤ key.length) : ((nts key).drop (4 * i)).take 4 = nts (wordOf key i) := by
  apply List.ext_getElem?
  intro j
  rw [List.getElem?_take]
  by_cases hj : j < 4
  · rw [if_pos hj, List.getElem?_drop, nts_at key (4 * i + j) (by omega)]
    match j, hj with
    | 0, _ => rfl
    | 1, _ => rfl
    | 2, _ => rfl
    | 3, _ => rfl
  · rw [if_neg hj, List.getElem?_eq_none (by rw [nts_len]; show 4 ≤ j; omega)]
theorem made44 : madeCells (Value.cells (.int .u32 0)) 44 = (List.replicate 44 (Value.int .u32 0)).toArray := by kernel_rfl
theorem made60 : madeCells (Value.cells (.int .u32 0)) 60 = (List.replicate 60 (Value.int .u32 0)).toArray := by kernel_rfl
set_option maxRecDepth 100000 in
theorem make_words (w : World) (N : Nat) (h : N = 44 ∨ N = 60) : Sem.run Try.prog (Instr.makeSlice 66 (.int .i64 (N : Int)) (.int .i64 (N : Int))) w = .ok (.slice (some ⟨w.heap.size, 0, none⟩) N N) (w.alloc (.cells (List.replicate N (Value.int .u32 0)).toArray 90)) := by
  have hi : ∃ i, Try.prog.info? 90 = some i ∧ i.zero = some (.int .u32 0) ∧ i.size = 1 ∧ i.bytes = 4 := ⟨_, rfl, rfl, rfl, rfl⟩
  obtain ⟨i, hi, hz, hs, hby⟩ := hi
  have h1 := run_makeSlice (P := Try.prog) (w := w) 66 90 i (.int .u32 0) Try.underlying66 hi hz .i64 .i64 (N : Int) (N : Int) (by omega) (Int.le_refl _) (by rw [hs]; omega) (by rw [hby]; omega) (by omega)
  have e : madeCells (Value.cells (.int .u32 0)) ((N : Int).toNat * i.size) = (List.replicate N (Value.int .u32 0)).toArray := by
    rw [hs]
    rcases h with h | h <;> subst h
    · exact made44
    · exact made60
  rw [e] at h1
  exact h1
theorem turned_len (n i : Nat) {t : List B8} (h : t.length = 4) : (turned n i t).length = 4 := by
  unfold turned
  split
  · rfl
  · split
    · rfl
    · exact h
theorem getD_four {L : List (List B8)} (h : ∀ x ∈ L, x.length = 4) (i : Nat) (hi : i < L.length) : (L.getD i []).length = 4 := by
  refine h _ ?_
  rw [List.getD_eq_getElem?_getD, List.getElem?_eq_getElem hi]
  exact List.getElem_mem hi
theorem columnOf_word {t : List B8} (h : t.length = 4) (w : World) :
    Calls Try.prog 61 #[wv t] w fun e w' => e = .returned (.agg (u8s (nts t)).toArray) ∧ But (fun _ => False) w w' := by
  have h1 := columnOf_any (at8 t 0) (at8 t 1) (at8 t 2) (at8 t 3) w
  unfold colV at h1
  rw [four_eta h] at h1
  exact h1
theorem number_word {t : List B8} (h : t.length = 4) (w : World) :
    Calls Try.prog 62 #[.agg (u8s (nts t)).toArray] w fun e w' => e = .returned (wv t) ∧ But (fun _ => False) w w' := by
  have h1 := number_any (at8 t 0) (at8 t 1) (at8 t 2) (at8 t 3) w
  unfold colV at h1
  rw [four_eta h] at h1
  exact h1
theorem xor_wv (a b : List B8) (w : World) : Sem.run Try.prog (binOp .xor 90 (wv a) (wv b)) w = .ok (wv (xor4 a b)) w := by
  have h := xor4n (at8 a 0) (at8 a 1) (at8 a 2) (at8 a 3) (at8 b 0) (at8 b 1) (at8 b 2) (at8 b 3)
  have l1 := num4_lt (at8 a 0) (at8 a 1) (at8 a 2) (at8 a 3)
  have l2 := num4_lt (at8 b 0) (at8 b 1) (at8 b 2) (at8 b 3)
  have e : wv (xor4 a b) = .int .u32 ((num4 (at8 a 0 ^^^ at8 b 0) (at8 a 1 ^^^ at8 b 1) (at8 a 2 ^^^ at8 b 2) (at8 a 3 ^^^ at8 b 3) : Nat) : Int) := rfl
  rw [e, ← h]
  unfold wv
  generalize num4 (at8 a 0) (at8 a 1) (at8 a 2) (at8 a 3) = p
  generalize num4 (at8 b 0) (at8 b 1) (at8 b 2) (at8 b 3) = q
  rfl
/-- What memory is amid wordsOf: words L, then words 0, and a reader of what is left of the key. -/
structure WrdI (w : World) (g r : Nat) (og : Option Nat) (L : List (List B8)) (N : Nat) (rest : List Nat) (wr : World) : Prop where
  wds : Blk wr g 90 (fillW L N)
  rd : Rd wr r og rest 0
  but : But (fun _ => False) w wr
set_option maxRecDepth 100000 in
set_option maxHeartbeats 2000000 in
theorem wordsOf_any {w : World} {v : Value} {key : List B8} {gb : Nat} (hv : Bs w v (nts key)) (hb : Bxs w gb) (hk : key.length = 16 ∨ key.length = 32) :
    Calls Try.prog 36 #[v, .pointer (some ⟨gb, 0, none⟩)] w fun e w' => ∃ gw T, e = .returned (.slice (some ⟨gw, 0, none⟩) (words key).length (words key).length) ∧ Blk w' gw T ((words key).map wv) ∧ w.heap.size ≤ gw ∧ But (fun _ => False) w w' := by
  have HV := Hid.mk' hv
  have HB := Hid.mk' hb
  have HK := Hid.mk' hk
  obtain ⟨ao, cap, rfl, hnone, -⟩ := hv.gen
  rw [nts_len]
  obtain ⟨kl, hkl⟩ : ∃ kl, kl = key.length := ⟨_, rfl⟩
  obtain ⟨n, hn⟩ : ∃ n, n = kl / 4 := ⟨_, rfl⟩
  obtain ⟨N, hN⟩ : ∃ N, N = 4 * (n + 7) := ⟨_, rfl⟩
  have HNW : Hid ((words key).length = N) := by show _ = _; rw [words_len, ← hkl, ← hn]; omega
  have HKL := Hid.mk' hkl
  have HN := Hid.mk' hn
  have HNN := Hid.mk' hN
  rw [HNW.out, ← hkl]
  have d1 : Int.tdiv (kl : Int) 4 = (n : Int) := by rw [Int.tdiv_eq_ediv_of_nonneg (by omega)]; omega
  have d2 : (kl : Int) / 4 = (n : Int) := by omega
  have hn8 : n = 4 ∨ n = 8 := by omega
  have hn8' : n ≤ 8 := by omega
  have hN60 : N ≤ 60 := by omega
  have w1 : 4 * ((n : Int) + 6 + 1) = (N : Int) := by omega
  have HN8 := Hid.mk' hn8
  clear hv hb hk hnone hkl hn hN hn8
  go_enter Try.func36, Try.ntmps36
  have hmk := make_words w N (by have := HN8.out; have := HNN.out; omega)
  obtain ⟨A, hA⟩ : ∃ A, A = (List.replicate N (Value.int .u32 0)).toArray := ⟨_, rfl⟩
  rw [← hA] at hmk
  have HA := Hid.mk' hA
  clear hA
  go_wp2_with fail
  obtain ⟨g, hg⟩ : ∃ g, g = w.heap.size := ⟨_, rfl⟩
  rw [← hg]
  obtain ⟨W0, hW0⟩ : ∃ W0, W0 = w.alloc (.cells A 90) := ⟨_, rfl⟩
  rw [← hW0]
  have hB0 : Blk W0 g 90 (fillW [] N) := by rw [hW0, HA.out, fillW_zero]; exact Blk.new hg.symm
  have hT0 : But (fun _ => False) w W0 := by rw [hW0]; exact (But.refl _ w).alloc _
  have HB0 := Hid.mk' hB0
  have HT0 := Hid.mk' hT0
  have HG := Hid.mk' hg
  have HRN := Hid.mk' (reader_any (HV.out.but hT0 (fun _ _ _ h => h)) (by rw [nts_len, ← HKL.out]; omega))
  rw [nts_len, ← HKL.out] at HRN
  clear hB0 hT0 hg hW0 hmk
  refine Calls.mono HRN.out ?_
  rintro e w2 ⟨r, og, rfl, hr, hog, hrd, hbel⟩
  have HI0 : Hid (WrdI w g r og [] N (nts key) w2) := ⟨HB0.out.but (But.of (R := fun _ => False) hbel) (fun h => h), hrd, HT0.out.trans (But.of hbel)⟩
  have HGR : Hid (g < r ∧ ∀ j, og = some j → g < j) := ⟨by have := HB0.out.lt; omega, fun j hj => by have := HB0.out.lt; have := hog j hj; omega⟩
  clear hr hog hrd hbel HRN
  go_wp2
  go_loopw [21] (fun i wr => ∃ k : Nat, k ≤ n ∧ i = .int .i64 k ∧ WrdI w g r og ((List.range k).map (wordOf key)) N ((nts key).drop (4 * k)) wr) (fun i _ => n - (intOf i).toNat)
  case atStart => exact ⟨0, by omega, rfl, HI0.out⟩
  case round =>
    obtain ⟨k, hkn, rfl, hI⟩ := hrel
    have HI := Hid.mk' hI
    clear hI HI0 HB0 HT0
    by_cases hlt : k < n
    · have hki : (k : Int) < (n : Int) := by omega
      obtain ⟨L, hL⟩ : ∃ L, L = (List.range k).map (wordOf key) := ⟨_, rfl⟩
      have HLL : Hid (L.length = k) := by show _ = _; rw [hL]; simp
      rw [← hL] at HI
      have HLE := Hid.mk' hL
      clear hL
      have HKB : Hid (4 * k + 4 ≤ key.length) := by show _ ≤ _; rw [← HKL.out]; have := HN.out; have := HK.out; have := HKL.out; omega
      have HNU := Hid.mk' (num_ok HI.out.rd 4 (by decide) (by decide) (by rw [List.length_drop, nts_len]; have := HKB.out; omega))
      rw [key_word key k HKB.out, List.drop_drop] at HNU
      go_wp2_with fail
      refine Calls.mono HNU.out ?_
      rintro e w3 ⟨rfl, hrd, hbut⟩
      have hk2 : 4 * k + 4 = 4 * (k + 1) := by omega
      rw [hk2] at hrd
      have HRD := Hid.mk' hrd
      have HB3 := Hid.mk' (HI.out.wds.but hbut (show ¬ (g = r) by have := HGR.out.1; omega))
      have HT3 := Hid.mk' (HI.out.but.then hbut (fun i hi e => by have := HGR.out.1; have := HG.out; omega))
      obtain ⟨X, hX⟩ : ∃ X, X = val (nts (wordOf key k)) := ⟨_, rfl⟩
      rw [← hX]
      have HX : Hid (Value.int .u32 (X : Int) = wv (wordOf key k)) := by show _ = _; rw [hX]; unfold wv; exact congrArg (fun x : Nat => Value.int .u32 (x : Int)) (val4 _ _ _ _)
      have hX32 : X < 4294967296 := by rw [hX]; show val (nts [_, _, _, _]) < _; rw [val4]; exact num4_lt _ _ _ _
      have c1 : w3.cell? ⟨g, k, none⟩ = some (.int .u32 0) := by
        rw [HB3.out.cell, ← HLL.out]; exact fillW_next L N (by rw [HLL.out]; have := HNN.out; omega)
      have f1 := HB3.out.free k
      have hNk : (k : Int) < (N : Int) := by have := HNN.out; omega
      clear hrd hbut HNU hX hk2
      go_wp2
      refine ⟨⟨k + 1, by omega, by go_num, ?_⟩, by simp [intOf]; omega⟩
      have hs : But (· = g) w3 (w3.setCell ⟨g, k, none⟩ (.int .u32 (X : Int))) := (But.refl (· = g) w3).setCell (p := ⟨g, k, none⟩) (fun _ => rfl) _
      refine ⟨?_, HRD.out.but hs (show ¬ (r = g) by have := HGR.out.1; omega) (fun j hj => show ¬ (j = g) by have := HGR.out.2 j hj; omega), HT3.out.then hs (fun i hi e => by have := HG.out; omega)⟩
      rw [List.range_succ, List.map_append, ← HLE.out]
      show Blk _ _ _ (fillW (L ++ [wordOf key k]) N)
      rw [← fillW_set L N _ (by rw [HLL.out]; have := HNN.out; omega), HLL.out, ← HX.out]
      exact HB3.out.set k _
    · have hkn2 : k = n := by omega
      subst hkn2
      have HI2 : Hid (Blk wr g 90 (fillW (kws key k 0) N) ∧ But (fun _ => False) w wr) := ⟨HI.out.wds, HI.out.but⟩
      clear HI
      go_wp2
      go_loopw [9] (fun i wr => ∃ m : Nat, k + m ≤ N ∧ i = .int .i64 (k + m : Nat) ∧ Blk wr g 90 (fillW (kws key k m) N) ∧ But (fun _ => False) w wr) (fun i _ => N - (intOf i).toNat)
      case atStart => exact ⟨0, by have := HNN.out; omega, rfl, HI2.out⟩
      case round =>
        obtain ⟨m, hm, rfl, hI⟩ := hrel
        obtain ⟨L, hL⟩ : ∃ L, L = kws key k m := ⟨_, rfl⟩
        obtain ⟨p, hp⟩ : ∃ p, p = k + m := ⟨_, rfl⟩
        rw [← hL] at hI
        rw [← hp] at hm ⊢
        have HLL : Hid (L.length = p) := by show _ = _; rw [hL, kws_len, hp]
        have HL4 : Hid (∀ x ∈ L, x.length = 4) := by show ∀ x ∈ L, x.length = 4; rw [hL]; exact kws_four _ _ _
        have HLE := Hid.mk' hL
        have HP := Hid.mk' hp
        have HI := Hid.mk' hI
        have hp4 : 4 ≤ p := by have := HN8.out; omega
        clear hL hI HI2 hp
        by_cases hlt2 : p < N
        · have hpi : (p : Int) < (N : Int) := by omega
          obtain ⟨X, hX⟩ : ∃ X, X = L.getD m [] := ⟨_, rfl⟩
          obtain ⟨Y, hY⟩ : ∃ Y, Y = L.getD (p - 1) [] := ⟨_, rfl⟩
          have HX := Hid.mk' hX
          have HY := Hid.mk' hY
          have HY4 : Hid (Y.length = 4) := by show _ = _; rw [hY]; exact getD_four HL4.out _ (by rw [HLL.out]; omega)
          obtain ⟨T, hT⟩ : ∃ T, T = turned k p Y := ⟨_, rfl⟩
          have HT4 : Hid (T.length = 4) := by show _ = _; rw [hT]; exact turned_len _ _ HY4.out
          have HTE := Hid.mk' hT
          clear hX hY hT
          have w1' : IntKind.i64.wrap ((p : Int) - (k : Int)) = (m : Int) := by have := HP.out; rw [wrapI _ (by omega) (by omega)]; omega
          have w2' : IntKind.i64.wrap ((p : Int) - 1) = ((p - 1 : Nat) : Int) := by rw [wrapI _ (by omega) (by omega)]; omega
          obtain ⟨u, hu⟩ : ∃ u, u = p - 1 := ⟨_, rfl⟩
          rw [← hu] at w2' HY
          have HU := Hid.mk' hu
          have hui : (u : Int) < (N : Int) := by omega
          have hmi : (m : Int) < (N : Int) := by have := HP.out; omega
          have HC1 : Hid (∀ w', But (fun _ => False) wr w' → w'.cell? ⟨g, m, none⟩ = some (wv X)) := by
            intro w' hw'
            rw [(HI.out.1.but hw' (fun h => h)).cell, HX.out]; exact fillW_at L N m (by rw [HLL.out]; have := HP.out; have := HN8.out; omega)
          have HC2 : Hid (∀ w', But (fun _ => False) wr w' → w'.cell? ⟨g, u, none⟩ = some (wv Y)) := by
            intro w' hw'
            rw [(HI.out.1.but hw' (fun h => h)).cell, HY.out]; exact fillW_at L N u (by rw [HLL.out, HU.out]; omega)
          have HBX : Hid (∀ w', But (fun _ => False) wr w' → Bxs w' gb) := fun w' hw' => HB.out.but (HI.out.2.trans hw') (fun h => h)
          clear hu
          go_upto_region 12 with fail
          refine region_class (l := [_, _, _, _, _, _, _, _, _, _, _, _, _, _, _, _, _, _, _, _, _]) (o := _) (fun w' => But (fun _ => False) wr w') (by kernel_rfl) (by kernel_rfl) (by kernel_rfl) rfl (by kernel_rfl) (by kernel_rfl) ((But.refl _ wr).drew) ?_
          refine class_val _ rfl (fun w' _ => rfl) ?_
          intro K hK; go_simp; refine hK _ ?_; clear hK K
          refine class_val _ rfl (fun w' _ => rfl) ?_
          intro K hK; go_simp; refine hK _ ?_; clear hK K
          refine class_val _ rfl (fun w' _ => rfl) ?_
          intro K hK; go_simp; refine hK _ ?_; clear hK K
          refine class_val _ rfl (fun w' _ => rfl) ?_
          intro K hK; go_simp; refine hK _ ?_; clear hK K
          refine class_val _ rfl (fun w' _ => rfl) ?_
          intro K hK; go_simp; refine hK _ ?_; clear hK K
          refine class_val (.int .i64 (m : Int)) rfl (fun w' _ => by go_simp) ?_
          intro K hK; go_simp; refine hK _ ?_; clear hK K
          refine class_val (.pointer (some ⟨g, m, none⟩)) rfl (fun w' _ => by go_simp) ?_
          intro K hK; go_simp; refine hK _ ?_; clear hK K
          refine class_val (wv X) rfl (fun w' hw' => by have c0 := HC1.out w' hw'; go_simp) ?_
          intro K hK; go_simp; refine hK _ ?_; clear hK K
          refine class_val _ rfl (fun w' _ => rfl) ?_
          intro K hK; go_simp; refine hK _ ?_; clear hK K
          refine class_val _ rfl (fun w' _ => rfl) ?_
          intro K hK; go_simp; refine hK _ ?_; clear hK K
          refine class_val (.int .i64 (u : Int)) rfl (fun w' _ => by go_simp) ?_
          intro K hK; go_simp; refine hK _ ?_; clear hK K
          refine class_val (.pointer (some ⟨g, u, none⟩)) rfl (fun w' _ => by go_simp) ?_
          intro K hK; go_simp; refine hK _ ?_; clear hK K
          refine class_val (wv Y) rfl (fun w' hw' => by have c0 := HC2.out w' hw'; go_simp) ?_
          intro K hK; go_simp; refine hK _ ?_; clear hK K
          refine class_call (.agg (u8s (nts Y)).toArray) 61 #[wv Y] rfl (fun w' _ => by kernel_rfl) (fun w' hw' => (columnOf_word HY4.out w').mono (fun e w'' h => ⟨h.1, hw'.trans h.2⟩)) ?_
          intro K hK; go_simp; refine hK _ ?_; clear hK K
          refine class_val _ rfl (fun w' _ => rfl) ?_
          intro K hK; go_simp; refine hK _ ?_; clear hK K
          refine class_val _ rfl (fun w' _ => rfl) ?_
          intro K hK; go_simp; refine hK _ ?_; clear hK K
          refine class_val _ rfl (fun w' _ => rfl) ?_
          intro K hK; go_simp; refine hK _ ?_; clear hK K
          refine class_call (.agg (u8s (nts T)).toArray) 60 #[.agg (u8s (nts Y)).toArray, .int .i64 (p : Int), .int .i64 (k : Int), .pointer (some ⟨gb, 0, none⟩)] rfl (fun w' _ => by kernel_rfl) (fun w' hw' => (grown_any (HBX.out w' hw') HY4.out HN8.out (by have := HP.out; omega) (by omega)).mono (fun e w'' h => ⟨by rw [h.1, HTE.out], hw'.trans h.2⟩)) ?_
          intro K hK; go_simp; refine hK _ ?_; clear hK K
          refine class_call (wv T) 62 #[.agg (u8s (nts T)).toArray] rfl (fun w' _ => by kernel_rfl) (fun w' hw' => (number_word HT4.out w').mono (fun e w'' h => ⟨h.1, hw'.trans h.2⟩)) ?_
          intro K hK; go_simp; refine hK _ ?_; clear hK K
          refine class_val (wv (xor4 X T)) rfl (fun w' _ => by have hx := xor_wv X T w'; go_simp) ?_
          intro K hK; go_simp; refine hK _ ?_; clear hK K
          refine class_val (.pointer (some ⟨g, p, none⟩)) rfl (fun w' _ => by go_simp) ?_
          intro K hK; go_simp; refine hK _ ?_; clear hK K
          refine wpQuiet_nil ?_
          intro w5 hw5
          have HB5 := Hid.mk' (HI.out.1.but hw5 (fun h => h))
          have c1 : w5.cell? ⟨g, p, none⟩ = some (.int .u32 0) := by
            rw [HB5.out.cell, ← HLL.out]; exact fillW_next L N (by rw [HLL.out]; exact hlt2)
          have f1 := HB5.out.free p
          obtain ⟨z, hz⟩ : ∃ z : Nat, wv (xor4 X T) = .int .u32 (z : Int) := ⟨_, rfl⟩
          have HZ := Hid.mk' hz
          rw [hz]
          generalize wv X = VX
          generalize wv Y = VY
          generalize wv T = VT
          generalize (u8s (nts Y)).toArray = AY
          generalize (u8s (nts T)).toArray = AT
          clear hz HC1 HC2 HBX
          go_wp2
          refine ⟨⟨m + 1, by have := HP.out; omega, by have := HP.out; go_num, ?_⟩, by simp [intOf]; omega⟩
          have hs : But (· = g) w5 (w5.setCell ⟨g, p, none⟩ (.int .u32 (z : Int))) := (But.refl (· = g) w5).setCell (p := ⟨g, p, none⟩) (fun _ => rfl) _
          refine ⟨?_, (HI.out.2.trans hw5).then hs (fun i hi e => by have := HG.out; omega)⟩
          have e : kws key k (m + 1) = L ++ [xor4 X T] := by
            show kws key k m ++ [xor4 ((kws key k m).getD (k + m - k) []) (turned k (k + m) ((kws key k m).getD (k + m - 1) []))] = _
            rw [← HLE.out, ← HP.out, show p - k = m by have := HP.out; omega, ← HX.out, ← HU.out, ← HY.out, ← HTE.out]
          rw [e, ← fillW_set L N _ (by rw [HLL.out]; exact hlt2), HLL.out, HZ.out]
          exact HB5.out.set p _
        · have hpN : p = N := by omega
          subst hpN
          go_wp2
          go_ret
          refine ⟨g, 90, rfl, ?_, by have := HG.out; omega, HI.out.2⟩
          have e : words key = L := by
            rw [HLE.out]
            unfold words
            rw [← HKL.out, ← HN.out]
            have e2 : 3 * k + 28 = m := by have := HP.out; have := HNN.out; omega
            rw [e2]
          rw [e, ← fillW_all L p HLL.out]
          exact HI.out.1
end Go.Proofs.Ythmjdebnjcopnaa
/- The program's New; and what a cipher that is none tells. -/
namespace Go.Proofs.Ythmjdebnjcopnaa
open Go.RowKit

set_option maxRecDepth 100000 in
set_option maxHeartbeats 1000000 in
theorem anew_any {w : World} {v : Value} {key : List B8} (hv : Bs w v (nts key)) (hk : key.length = 16 ∨ key.length = 32) :
    Calls Try.prog 23 #[v] w fun e w' => ∃ gc gb gw, e = .returned (.tuple #[.pointer (some ⟨gc, 0, none⟩), .int .i64 0]) ∧ Cph w' gc gb gw (words key) ∧ (w.heap.size ≤ gc ∧ w.heap.size ≤ gb ∧ w.heap.size ≤ gw) ∧ But (fun _ => False) w w' := by
  have HV := Hid.mk' hv
  have HK := Hid.mk' hk
  obtain ⟨ao, cap, rfl, -, -⟩ := hv.gen
  rw [nts_len]
  obtain ⟨n, hn⟩ : ∃ n, n = key.length := ⟨_, rfl⟩
  rw [← hn] at hk ⊢
  have HN := Hid.mk' hn
  rw [nts_len, ← hn] at HV
  clear hv hn
  have HWL : Hid ((words key).length = 44 ∨ (words key).length = 60) := by
    show _ ∨ _
    rw [words_len]
    have := HK.out
    omega
  have HNW := Hid.mk' (new_any w)
  have fin : Hid (∀ w1, Bxs w1 w.heap.size → But (fun _ => False) w w1 → Calls Try.prog 36 #[.slice ao n cap, .pointer (some ⟨w.heap.size, 0, none⟩)] w1 fun e w' => ∃ gw T, e = .returned (.slice (some ⟨gw, 0, none⟩) (words key).length (words key).length) ∧ Blk w' gw T ((words key).map wv) ∧ w1.heap.size ≤ gw ∧ But (fun _ => False) w1 w') := by
    intro w1 hb hbut
    exact wordsOf_any (HV.out.but hbut (fun _ _ _ h => h)) hb HK.out
  have rest : ∀ w2 gw T, Blk w2 gw T ((words key).map wv) → Bxs w2 w.heap.size → Cph (w2.alloc (.cells #[.pointer (some ⟨w.heap.size, 0, none⟩), .slice (some ⟨gw, 0, none⟩) (words key).length (words key).length] 69)) w2.heap.size w.heap.size gw (words key) := by
    intro w2 gw T hb hx
    have ha : But (fun _ => False) w2 (w2.alloc (.cells #[.pointer (some ⟨w.heap.size, 0, none⟩), .slice (some ⟨gw, 0, none⟩) (words key).length (words key).length] 69)) := (But.refl _ w2).alloc _
    exact ⟨Blk.new (L := [_, _]) rfl, hx.but ha (fun h => h), ⟨T, hb.but ha (fun h => h)⟩, HWL.out⟩
  have REST := Hid.mk' rest
  clear rest
  obtain ⟨N, hN⟩ : ∃ N, N = (words key).length := ⟨_, rfl⟩
  rw [← hN] at fin REST
  clear hN
  rcases hk with hk | hk
  · subst hk
    go_enter Try.func23, Try.ntmps23
    go_wp2_with fail
    refine Calls.mono HNW.out ?_
    rintro e w1 ⟨rfl, hx1, hb1⟩
    have FIN := Hid.mk' (fin.out w1 hx1 hb1)
    have HX1 := Hid.mk' hx1
    have HB1 := Hid.mk' hb1
    clear hx1 hb1 fin HNW
    go_wp2_with fail
    refine Calls.mono FIN.out ?_
    rintro e w2 ⟨gw, T, rfl, hb2, hge, hbut2⟩
    have HB2 := Hid.mk' hb2
    have HT2 := Hid.mk' hbut2
    have HGE := Hid.mk' hge
    clear hb2 hbut2 hge FIN
    go_wp2
    go_ret2
    have hs1 := HB1.out.size
    have hs2 := HT2.out.size
    exact ⟨_, _, gw, rfl, REST.out w2 gw T HB2.out (HX1.out.but HT2.out (fun h => h)), ⟨by omega, Nat.le_refl _, by have := HGE.out; omega⟩, (HB1.out.trans HT2.out).trans ((But.refl _ w2).alloc _)⟩
  · subst hk
    go_enter Try.func23, Try.ntmps23
    go_wp2_with fail
    refine Calls.mono HNW.out ?_
    rintro e w1 ⟨rfl, hx1, hb1⟩
    have FIN := Hid.mk' (fin.out w1 hx1 hb1)
    have HX1 := Hid.mk' hx1
    have HB1 := Hid.mk' hb1
    clear hx1 hb1 fin HNW
    go_wp2_with fail
    refine Calls.mono FIN.out ?_
    rintro e w2 ⟨gw, T, rfl, hb2, hge, hbut2⟩
    have HB2 := Hid.mk' hb2
    have HT2 := Hid.mk' hbut2
    have HGE := Hid.mk' hge
    clear hb2 hbut2 hge FIN
    go_wp2
    go_ret2
    have hs1 := HB1.out.size
    have hs2 := HT2.out.size
    exact ⟨_, _, gw, rfl, REST.out w2 gw T HB2.out (HX1.out.but HT2.out (fun h => h)), ⟨by omega, Nat.le_refl _, by have := HGE.out; omega⟩, (HB1.out.trans HT2.out).trans ((But.refl _ w2).alloc _)⟩
theorem anew_none {w : World} {v : Value} {xs : List Nat} (hv : Bs w v xs) (h16 : xs.length ≠ 16) (h32 : xs.length ≠ 32) :
    Calls Try.prog 23 #[v] w fun e w' => e = .returned (.tuple #[.pointer none, .int .i64 1]) ∧ w' = w := by
  obtain ⟨ao, cap, rfl, -, -⟩ := hv.gen
  clear hv
  generalize xs.length = n at *
  have a1 : ((n : Int) == 16) = false := by simp; omega
  have a2 : ((n : Int) == 32) = false := by simp; omega
  have b1 : ((n : Int) != 16) = true := by simp; omega
  have b2 : ((n : Int) != 32) = true := by simp; omega
  clear h16 h32 a1 a2
  go_enter Try.func23, Try.ntmps23
  go_wp2
  go_ret2
  exact ⟨rfl, rfl⟩
theorem encrypt_nil {w : World} (C : Array Value) :
    Calls Try.prog 25 #[.pointer none, .agg C] w fun e w' => e = .returned (.agg (u8s (List.replicate 16 0)).toArray) ∧ But (fun _ => False) w w' := by
  have HM := Hid.mk' made_nil
  go_enter Try.func25, Try.ntmps25
  go_wp2_with fail
  refine Calls.mono (HM.out _) ?_
  rintro e w1 ⟨rfl, hw⟩
  have hw' := hw.symm
  subst hw'
  go_wp2
  have hb := Blk.new (w := w.alloc (.cells C 44)) (g := w.heap.size + 1) (T := 44) (L := u8s (List.replicate 16 0)) (by simp)
  exact bodyPost_ret (results_cell_row rfl _ _ (w.heap.size + 1) _ _ _ _ rfl hb Try.underlying44 rfl (by rw [i23]; rfl)) rfl ⟨rfl, ((But.refl _ w).alloc _).alloc _⟩
set_option maxRecDepth 100000 in
theorem ptr_eql_c (w : World) (p : Option Addr) : Sem.run Try.prog (binOp .eql 48 (.pointer p) (.pointer none)) w = .ok (.bool p.isNone) w := by
  cases p <;> rfl
end Go.Proofs.Ythmjdebnjcopnaa
/- The reference's Inverse and Power. -/
namespace Go.Proofs.Ythmjdebnjcopnaa
open Go.RowKit

set_option maxHeartbeats 1000000 in
theorem rinverse_any (a : B8) (w : World) :
    Calls Try.prog 67 #[.int .u8 (b8 a)] w fun e w' => e = .returned (.int .u8 (b8 (inv a))) ∧ w' = w := by
  have H := Hid.mk' (fun x y => rtimes_any x y w)
  go_enter Try.func67, Try.ntmps67
  go_wp2
  go_loopw [3] (fun i wr => ∃ k : Nat, k ≤ 256 ∧ 1 ≤ k ∧ i = .int .i64 k ∧ (∀ x : B8, 1 ≤ b8 x → b8 x < k → tm a x ≠ 1#8) ∧ wr = w) (fun i _ => 256 - (intOf i).toNat)
  case atStart => exact ⟨1, by decide, by decide, rfl, fun x h1 h2 => by omega, rfl⟩
  case round =>
    obtain ⟨k, hk, hk1, rfl, hno, rfl⟩ := hrel
    have HN := Hid.mk' hno
    clear hno
    by_cases hlt : k < 256
    · obtain ⟨I, rfl⟩ := b8_get k hlt
      have hlti : (b8 I : Int) < 256 := by omega
      by_cases h1 : tm a I = 1#8
      · have e : I = inv a := inv_of h1
        have heq : ((b8 (tm a I) : Int) == 1) = true := by rw [h1]; rfl
        have HE := Hid.mk' e
        clear h1 e
        go_wp2_with fail
        refine Calls.mono (H.out a I) ?_
        rintro e w1 ⟨rfl, hw⟩
        have hw' := hw.symm
        subst hw'
        go_wp2
        go_ret
        exact ⟨by rw [← HE.out]; rfl, rfl⟩
      · have hne : ((b8 (tm a I) : Int) == 1) = false := by
          rw [beq_eq_false_iff_ne]
          intro e
          exact h1 (b8_inj (show b8 (tm a I) = 1 by omega))
        have HE := Hid.mk' h1
        clear h1
        go_wp2_with fail
        refine Calls.mono (H.out a I) ?_
        rintro e w1 ⟨rfl, hw⟩
        have hw' := hw.symm
        subst hw'
        go_wp2
        refine ⟨⟨b8 I + 1, by omega, by omega, by go_num, ?_, trivial⟩, by simp [intOf]; omega⟩
        intro x h1 h2
        by_cases hx : b8 x < b8 I
        · exact HN.out x h1 hx
        · have e : x = I := b8_inj (by omega)
          rw [e]; exact HE.out
    · have hk6 : k = 256 := by omega
      subst hk6
      have hz : inv a = 0#8 := by
        by_cases h0 : a = 0#8
        · rw [h0]; exact inv_zero
        · exfalso
          have hi := inv_ne h0
          have hp : 1 ≤ b8 (inv a) := by
            rcases Nat.eq_zero_or_pos (b8 (inv a)) with h | h
            · exact absurd (b8_inj (y := 0) h) hi
            · exact h
          exact HN.out (inv a) hp (b8_lt _) (tm_inv a h0)
      have HZ := Hid.mk' hz
      clear hz HN
      go_wp2
      go_ret
      exact ⟨by rw [HZ.out]; rfl, rfl⟩
set_option maxHeartbeats 1000000 in
theorem rpower_any (a : B8) (N : Int) (h1 : -9223372036854775808 ≤ N) (h2 : N < 9223372036854775808) (w : World) :
    Calls Try.prog 27 #[.int .u8 (b8 a), .int .i64 N] w fun e w' => e = .returned (.int .u8 (b8 (pw a N.toNat))) ∧ w' = w := by
  have H := Hid.mk' (fun x y => rtimes_any x y w)
  by_cases c1 : N < 1
  · rw [show N.toNat = 0 by omega]
    clear h1 h2
    go_enter Try.func27, Try.ntmps27
    go_wp2
    go_ret
    exact ⟨rfl, rfl⟩
  · by_cases c2 : a = 0#8
    · subst c2
      rw [show pw 0#8 N.toNat = 0#8 from pw_zero _ (by omega)]
      clear h1 h2
      go_enter Try.func27, Try.ntmps27
      go_wp2
      go_ret
      exact ⟨rfl, rfl⟩
    · have hne : ((b8 a : Int) == 0) = false := by
        rw [beq_eq_false_iff_ne]
        intro e
        exact c2 (b8_inj (show b8 a = 0 by omega))
      obtain ⟨m, hm⟩ : ∃ m : Nat, N = (m : Int) := ⟨N.toNat, by omega⟩
      have hr : Int.tmod N 255 = ((m % 255 : Nat) : Int) := by rw [hm, Int.tmod_eq_emod_of_nonneg (by omega)]; omega
      rw [show pw a N.toNat = pw a (m % 255) by rw [pw_mod a c2, show N.toNat = m by omega]]
      have hq : m % 255 < 255 := by omega
      generalize m % 255 = q at *
      clear hm c2 h1 h2
      go_enter Try.func27, Try.ntmps27
      go_wp2
      go_loopw [5, 6] (fun p i wr => ∃ k : Nat, k ≤ q ∧ i = .int .i64 k ∧ p = .int .u8 (b8 (pw a k)) ∧ wr = w) (fun _ i _ => q - (intOf i).toNat)
      case atStart => exact ⟨0, by omega, rfl, rfl, rfl⟩
      case round =>
        obtain ⟨k, hk, rfl, rfl, rfl⟩ := hrel
        by_cases hlt : k < q
        · have hlti : (k : Int) < (q : Int) := by omega
          go_wp2_with fail
          refine Calls.mono (H.out (pw a k) a) ?_
          rintro e w1 ⟨rfl, hw⟩
          have hw' := hw.symm
          subst hw'
          go_wp2
          refine ⟨⟨k + 1, by omega, by go_num, rfl, trivial⟩, by simp [intOf]; omega⟩
        · have hkq : k = q := by omega
          subst hkq
          go_wp2
          go_ret
          exact ⟨rfl, rfl⟩
end Go.Proofs.Ythmjdebnjcopnaa
/- The reference's Box and Back. -/
namespace Go.Proofs.Ythmjdebnjcopnaa
open Go.RowKit

theorem bitAt_le (b : B8) (k : Nat) : bitAt b k ≤ 1 := by unfold bitAt; omega
theorem bitAt_and (b : B8) (k : Nat) (h : k < 8) : bits .and .u8 ((b8 b : Int) / 2 ^ k) 1 = (bitAt b k : Int) := by
  revert b
  have e : ∀ k, k < 8 → ∀ n, n < 256 → bits .and .u8 ((b8 (BitVec.ofNat 8 n) : Int) / 2 ^ k) 1 = (bitAt (BitVec.ofNat 8 n) k : Int) := by decide +kernel
  exact all8 (e k h)
theorem byBits_or (b : B8) (k : Nat) (h : k < 8) : bits .or .u8 (byBits b k : Int) ((sumAt b k % 2 : Nat) * 2 ^ k % 256) = (byBits b (k + 1) : Int) := by
  revert b
  have e : ∀ k, k < 8 → ∀ n, n < 256 → bits .or .u8 (byBits (BitVec.ofNat 8 n) k : Int) ((sumAt (BitVec.ofNat 8 n) k % 2 : Nat) * 2 ^ k % 256) = (byBits (BitVec.ofNat 8 n) (k + 1) : Int) := by decide +kernel
  exact all8 (e k h)
theorem byBits_lt8 (b : B8) (k : Nat) (h : k ≤ 8) : byBits b k < 256 :=
  Nat.lt_of_lt_of_le (byBits_lt b k) (Nat.pow_le_pow_right (n := 2) (by decide) h)
set_option maxHeartbeats 1000000 in
theorem rbox_any (a : B8) (w : World) :
    Calls Try.prog 47 #[.int .u8 (b8 a)] w fun e w' => e = .returned (.int .u8 (b8 (bx a))) ∧ w' = w := by
  have HI := Hid.mk' (rinverse_any a w)
  go_enter Try.func47, Try.ntmps47
  go_wp2_with fail
  refine Calls.mono HI.out ?_
  rintro e w1 ⟨rfl, hw⟩
  have hw' := hw.symm
  subst hw'
  go_wp2_with fail
  obtain ⟨b, hb⟩ : ∃ b, b = inv a := ⟨_, rfl⟩
  have HBX : Hid (byBits b 8 = b8 (bx a)) := by show _ = _; rw [hb]; exact byBits_aff (inv a)
  rw [← hb]
  clear hb HI
  go_loopw [4, 5] (fun s i wr => ∃ k : Nat, k ≤ 8 ∧ i = .int .u64 k ∧ s = .int .u8 (byBits b k : Nat) ∧ wr = w) (fun _ i _ => 8 - (intOf i).toNat)
  case atStart => exact ⟨0, by decide, rfl, rfl, rfl⟩
  case round =>
    obtain ⟨k, hk, rfl, rfl, rfl⟩ := hrel
    by_cases hlt : k < 8
    · have hlti : (k : Int) < 8 := by omega
      have ha0 := bitAt_and 99#8 k hlt
      have ha1 := bitAt_and b k hlt
      have ha4 := bitAt_and b ((k + 4) % 8) (by omega)
      have ha5 := bitAt_and b ((k + 5) % 8) (by omega)
      have ha6 := bitAt_and b ((k + 6) % 8) (by omega)
      have ha7 := bitAt_and b ((k + 7) % 8) (by omega)
      have l0 := bitAt_le 99#8 k
      have l1 := bitAt_le b k
      have l4 := bitAt_le b ((k + 4) % 8)
      have l5 := bitAt_le b ((k + 5) % 8)
      have l6 := bitAt_le b ((k + 6) % 8)
      have l7 := bitAt_le b ((k + 7) % 8)
      have hor := byBits_or b k hlt
      have hbb := b8_lt b
      have hby := byBits_lt8 b k hk
      have hS : sumAt b k = bitAt 99#8 k + bitAt b k + bitAt b ((k + 4) % 8) + bitAt b ((k + 5) % 8) + bitAt b ((k + 6) % 8) + bitAt b ((k + 7) % 8) := rfl
      have e4 : ((k : Int) + 4) % 8 = ((k + 4) % 8 : Nat) := by omega
      have e5 : ((k : Int) + 5) % 8 = ((k + 5) % 8 : Nat) := by omega
      have e6 : ((k : Int) + 6) % 8 = ((k + 6) % 8 : Nat) := by omega
      have e7 : ((k : Int) + 7) % 8 = ((k + 7) % 8 : Nat) := by omega
      have q4 : (k + 4) % 8 < 8 := by omega
      have q5 : (k + 5) % 8 < 8 := by omega
      have q6 : (k + 6) % 8 < 8 := by omega
      have q7 : (k + 7) % 8 < 8 := by omega
      generalize (k + 4) % 8 = k4 at *
      generalize (k + 5) % 8 = k5 at *
      generalize (k + 6) % 8 = k6 at *
      generalize (k + 7) % 8 = k7 at *
      change bits .and .u8 (99 / 2 ^ k) 1 = _ at ha0
      generalize bitAt 99#8 k = x0 at *
      generalize bitAt b k = x1 at *
      generalize bitAt b k4 = x4 at *
      generalize bitAt b k5 = x5 at *
      generalize bitAt b k6 = x6 at *
      generalize bitAt b k7 = x7 at *
      generalize sumAt b k = S at *
      have hSi : (x0 : Int) + x1 + x4 + x5 + x6 + x7 = (S : Int) := by omega
      have hS6 : S ≤ 6 := by omega
      have ht1 : (S : Int) % 2 = ((S % 2 : Nat) : Int) := by omega
      have ht2 : Int.tmod (S : Int) 2 = ((S % 2 : Nat) : Int) := by rw [Int.tmod_eq_emod_of_nonneg (by omega)]; exact ht1
      have hT : S % 2 ≤ 1 := by omega
      generalize S % 2 = T at *
      clear hS
      go_wp2
      exact ⟨⟨k + 1, by omega, by go_num, rfl, trivial⟩, by simp [intOf]; omega⟩
    · have hk8 : k = 8 := by omega
      subst hk8
      go_wp2
      go_ret
      exact ⟨by rw [← HBX.out]; rfl, rfl⟩
end Go.Proofs.Ythmjdebnjcopnaa
/- The reference's mixed and add. -/
namespace Go.Proofs.Ythmjdebnjcopnaa
open Go.RowKit

theorem wrap_mid (n : Int) (h1 : -9223372036854775808 ≤ n) (h2 : n < 9223372036854775808) : IntKind.i64.wrap n = n := by
  simp [IntKind.wrap, IntKind.bits, IntKind.signed]; omega
theorem i16s : (Try.prog.info? 44).map (·.size) = some 16 := by kernel_rfl
theorem i4s : (Try.prog.info? 58).map (·.size) = some 4 := by kernel_rfl
/-- The column's bytes below m full, that at m of j products, the others nothing. -/
def partMix (f b : List B8) (m j : Nat) : List B8 := mk16 fun i => if i < m then mixSum f b i 4 else if i = m then mixSum f b i j else 0
theorem partMix_len (f b : List B8) (m j : Nat) : (partMix f b m j).length = 16 := mk16_len _
theorem partMix_at (f b : List B8) (m j : Nat) (h : m < 16) : at8 (partMix f b m j) m = mixSum f b m j := by
  unfold partMix; rw [mk16_at _ _ h]; simp
theorem partMix_next (f b : List B8) (m : Nat) : partMix f b m 4 = partMix f b (m + 1) 0 := by
  refine at8_ext (partMix_len _ _ _ _) (partMix_len _ _ _ _) (fun i hi => ?_)
  unfold partMix
  rw [mk16_at _ i hi, mk16_at _ i hi]
  by_cases h1 : i < m
  · rw [if_pos h1, if_pos (by omega)]
  · by_cases h2 : i = m
    · rw [if_neg h1, if_pos h2, if_pos (by omega)]
    · rw [if_neg h1, if_neg h2, if_neg (by omega)]
      by_cases h3 : i = m + 1
      · rw [if_pos h3]; rfl
      · rw [if_neg h3]
theorem partMix_zero (f b : List B8) : partMix f b 0 0 = List.replicate 16 0 := by
  refine at8_ext (partMix_len _ _ _ _) (by simp) (fun i hi => ?_)
  unfold partMix
  rw [mk16_at _ i hi, if_neg (Nat.not_lt_zero _)]
  have e : at8 (List.replicate 16 (0 : B8)) i = 0 := by unfold at8 List.getD; rw [List.getElem?_replicate, if_pos hi]; rfl
  rw [e]
  by_cases h : i = 0
  · rw [if_pos h]; rfl
  · rw [if_neg h]
theorem partMix_all (f b : List B8) : partMix f b 16 0 = mixBy f b := by
  refine at8_ext (partMix_len _ _ _ _) (mixBy_len _ _) (fun i hi => ?_)
  unfold partMix mixBy
  rw [mk16_at _ i hi, mk16_at _ i hi, if_pos hi]
theorem partMix_set (f b : List B8) (m j : Nat) (h : m < 16) : (partMix f b m j).set m (mixSum f b m j ^^^ tm (at8 f ((j + 4 - m % 4) % 4)) (at8 b (4 * (m / 4) + j))) = partMix f b m (j + 1) := by
  refine at8_ext (by rw [List.length_set]; exact partMix_len _ _ _ _) (partMix_len _ _ _ _) (fun i hi => ?_)
  rw [at8_set _ _ _ _ (by rw [partMix_len]; exact h)]
  unfold partMix
  rw [mk16_at _ i hi, mk16_at _ i hi]
  by_cases h2 : i = m
  · subst h2
    rw [if_pos rfl, if_neg (Nat.lt_irrefl _), if_pos rfl]; rfl
  · rw [if_neg h2, if_neg h2, if_neg h2]
/-- What memory is amid mixed. -/
structure MixI (w : World) (g : Nat) (f b : List B8) (m j : Nat) (wr : World) : Prop where
  src : Blk wr g 44 (u8s (nts b))
  fac : Blk wr (g + 1) 58 (u8s (nts f))
  res : Blk wr (g + 2) 44 (u8s (List.replicate 16 0))
  out : Blk wr (g + 3) 44 (u8s (nts (partMix f b m j)))
  but : But (fun _ => False) w wr
theorem MixI.next {w wr : World} {g m : Nat} {f b : List B8} (h : MixI w g f b m 4 wr) : MixI w g f b (m + 1) 0 wr :=
  ⟨h.src, h.fac, h.res, by rw [← partMix_next]; exact h.out, h.but⟩
set_option maxRecDepth 100000 in
set_option maxHeartbeats 1000000 in
theorem mixed_any {w : World} {b f : List B8} (hb : b.length = 16) (hf : f.length = 4) :
    Calls Try.prog 55 #[.agg (u8s (nts b)).toArray, .agg (u8s (nts f)).toArray] w fun e w' => e = .returned (.agg (u8s (nts (mixBy f b))).toArray) ∧ But (fun _ => False) w w' := by
  have hz : ∀ w : World, (zeroValue 44).run Try.prog w = .ok (.agg (u8s (List.replicate 16 0)).toArray) w := fun _ => by kernel_rfl
  obtain ⟨Z, hZ⟩ : ∃ Z, Z = (u8s (List.replicate 16 0)).toArray := ⟨_, rfl⟩
  rw [← hZ] at hz
  obtain ⟨C, hC⟩ : ∃ C, C = (u8s (nts b)).toArray := ⟨_, rfl⟩
  obtain ⟨F, hF⟩ : ∃ F, F = (u8s (nts f)).toArray := ⟨_, rfl⟩
  rw [← hC, ← hF]
  have HZ := Hid.mk' hZ
  have HC := Hid.mk' hC
  have HF := Hid.mk' hF
  clear hZ hC hF
  go_enter Try.func55, Try.ntmps55
  go_wp2
  obtain ⟨g, hg⟩ : ∃ g, g = w.heap.size := ⟨_, rfl⟩
  have hI : MixI w g f b 0 0 ((((w.alloc (.cells C 44)).alloc (.cells F 58)).alloc (.cells Z 44)).alloc (.cells Z 44)) := by
    rw [HC.out, HF.out, HZ.out]
    have al : ∀ (x : World) (o : Obj), But (fun _ => False) x (x.alloc o) := fun x o => (But.refl _ x).alloc o
    refine ⟨?_, ?_, ?_, ?_, (((((But.refl _ w).alloc _).alloc _).alloc _).alloc _)⟩
    · exact (((Blk.new hg.symm).but (al _ _) (fun h => h)).but (al _ _) (fun h => h)).but (al _ _) (fun h => h)
    · exact ((Blk.new (by simp [hg])).but (al _ _) (fun h => h)).but (al _ _) (fun h => h)
    · exact (Blk.new (by simp [hg])).but (al _ _) (fun h => h)
    · rw [partMix_zero]; exact Blk.new (by simp [hg])
  rw [← hg, show g + 1 + 1 + 1 = g + 3 from rfl, show g + 1 + 1 = g + 2 from rfl]
  generalize ((((w.alloc (.cells C 44)).alloc (.cells F 58)).alloc (.cells Z 44)).alloc (.cells Z 44)) = W0 at *
  have HI := Hid.mk' hI
  have HG := Hid.mk' hg
  clear hI hg hz HZ HC HF
  go_loopw [6] (fun i wr => ∃ c : Nat, c ≤ 4 ∧ i = .int .i64 c ∧ MixI w g f b (4 * c) 0 wr) (fun i _ => 4 - (intOf i).toNat)
  case atStart => exact ⟨0, by decide, rfl, HI.out⟩
  case round =>
    obtain ⟨c, hc, rfl, hI⟩ := hrel
    by_cases hlt : c < 4
    · have HI := Hid.mk' hI
      clear hI
      have hci : (c : Int) < 4 := by omega
      obtain ⟨wo, hwo⟩ : ∃ wo, wo = wr := ⟨_, rfl⟩
      subst hwo
      go_wp2
      go_loopw [7] (fun i wr => ∃ r : Nat, r ≤ 4 ∧ i = .int .i64 r ∧ MixI w g f b (4 * c + r) 0 wr) (fun i _ => 4 - (intOf i).toNat)
      case atStart => exact ⟨0, by decide, rfl, HI.out⟩
      case round =>
        obtain ⟨r, hr, rfl, hI2⟩ := hrel
        by_cases hlt2 : r < 4
        · have HI2 := Hid.mk' hI2
          clear hI2 HI
          have hri : (r : Int) < 4 := by omega
          obtain ⟨wp, hwp⟩ : ∃ wp, wp = wr := ⟨_, rfl⟩
          subst hwp
          go_wp2
          go_loopw [8] (fun i wr => ∃ j : Nat, j ≤ 4 ∧ i = .int .i64 j ∧ MixI w g f b (4 * c + r) j wr) (fun i _ => 4 - (intOf i).toNat)
          case atStart => exact ⟨0, by decide, rfl, HI2.out⟩
          case round =>
            obtain ⟨j, hj, rfl, hI3⟩ := hrel
            by_cases hlt3 : j < 4
            · have hji : (j : Int) < 4 := by omega
              have HI3 := Hid.mk' hI3
              clear hI3 HI2
              obtain ⟨q, hq⟩ : ∃ q, q = 4 * c := ⟨_, rfl⟩
              obtain ⟨m, hm⟩ : ∃ m, m = q + r := ⟨_, rfl⟩
              obtain ⟨p, hp⟩ : ∃ p, p = q + j := ⟨_, rfl⟩
              obtain ⟨d, hd⟩ : ∃ d : Int, d = (j : Int) - r := ⟨_, rfl⟩
              obtain ⟨e, he⟩ : ∃ e : Nat, (e : Int) = d + 4 := ⟨j + 4 - r, by omega⟩
              obtain ⟨t, ht⟩ : ∃ t, t = e % 4 := ⟨_, rfl⟩
              have w1 : IntKind.i64.wrap (4 * (c : Int)) = (q : Int) := by rw [wrap_mid _ (by omega) (by omega)]; omega
              have w2 : IntKind.i64.wrap ((q : Int) + (r : Int)) = (m : Int) := by rw [wrap_mid _ (by omega) (by omega)]; omega
              have w3 : IntKind.i64.wrap ((j : Int) - (r : Int)) = d := by rw [wrap_mid _ (by omega) (by omega)]; omega
              have w4 : IntKind.i64.wrap (d + 4) = (e : Int) := by rw [wrap_mid _ (by omega) (by omega)]; omega
              have w5 : Int.tmod (e : Int) 4 = (t : Int) := by rw [Int.tmod_eq_emod_of_nonneg (by omega)]; omega
              have w6 : IntKind.i64.wrap ((q : Int) + (j : Int)) = (p : Int) := by rw [wrap_mid _ (by omega) (by omega)]; omega
              have hm16 : m < 16 := by omega
              have ht4 : t < 4 := by omega
              have hp16 : p < 16 := by omega
              have b1 : (m : Int) < 16 := by omega
              have b2 : (t : Int) < 4 := by omega
              have b3 : (p : Int) < 16 := by omega
              have HME : Hid (4 * c + r = m) := by show _ = _; omega
              have HX : Hid (mixSum f b m j ^^^ tm (at8 f t) (at8 b p) = mixSum f b m j ^^^ tm (at8 f ((j + 4 - m % 4) % 4)) (at8 b (4 * (m / 4) + j))) := by
                show _ = _
                rw [show (j + 4 - m % 4) % 4 = t by omega, show 4 * (m / 4) + j = p by omega]
              rw [HME.out] at HI3
              have c1 := blk_nts HI3.out.out m (by rw [partMix_len]; exact hm16)
              rw [partMix_at f b m j hm16] at c1
              have c2 := blk_nts HI3.out.fac t (by rw [hf]; exact ht4)
              have c3 := blk_nts HI3.out.src p (by rw [hb]; exact hp16)
              have hfr := HI3.out.out.free m
              have hxor := xor_b8 (mixSum f b m j) (tm (at8 f t) (at8 b p))
              clear hq hm hp hd he ht
              generalize hX : mixSum f b m j = X at *
              generalize hY : at8 f t = Y at *
              generalize hV : at8 b p = V at *
              have HXX := Hid.mk' hX
              clear hX hY hV
              go_wp2
              refine region_ends (l := [_, _, _, _, _, _, _, _, _, _, _, _, _, _, _, _, _, _, _, _, _, _, _, _, _, _]) (o := _) (by kernel_rfl) (by kernel_rfl) (by kernel_rfl) rfl (by kernel_rfl) (by kernel_rfl) ?_
              repeat (quiet_step ((go_at_call 48; exact Calls.quiet_of_same (rtimes_any _ _ _))))
              refine wpQuiet_nil ?_
              intro _ hw'
              obtain ⟨nq, hw''⟩ := hw'
              subst hw''
              go_wp2
              refine ⟨⟨j + 1, by omega, by go_num, ?_⟩, by simp [intOf]; omega⟩
              rw [HME.out]
              have h := HI3.out
              have hs : But (· = g + 3) wr (wr.setCell ⟨g + 3, m, none⟩ (.int .u8 (b8 (X ^^^ tm Y V) : Nat))) := (But.refl (· = g + 3) wr).setCell (p := ⟨g + 3, m, none⟩) (fun _ => rfl) _
              have hs2 := hs.drewN (n := nq)
              refine ⟨h.src.but hs2 (show ¬ (g = g + 3) by omega), h.fac.but hs2 (show ¬ (g + 1 = g + 3) by omega), h.res.but hs2 (show ¬ (g + 2 = g + 3) by omega), ?_, h.but.then hs2 (fun i hi e => by have := HG.out; omega)⟩
              rw [← partMix_set f b m j hm16, HXX.out, ← HX.out]
              exact blk_nts_set h.out m _
            · have hj4 : j = 4 := by omega
              subst hj4
              have HI4 := Hid.mk' hI3
              clear hI3 HI2
              go_wp2
              refine ⟨⟨r + 1, by omega, by go_num, ?_⟩, by simp [intOf]; omega⟩
              have h := HI4.out
              rw [← Nat.add_assoc]
              exact h.next
        · have hr4 : r = 4 := by omega
          subst hr4
          have HI4 := Hid.mk' hI2
          clear hI2 HI
          go_wp2
          refine ⟨⟨c + 1, by omega, by go_num, ?_⟩, by simp [intOf]; omega⟩
          rw [Nat.mul_add]
          exact HI4.out
    · have hc4 : c = 4 := by omega
      subst hc4
      obtain ⟨h0, h1, h2, h3, hbt⟩ := hI
      rw [show 4 * 4 = 16 from rfl, partMix_all] at h3
      have H2 := Hid.mk' h2
      have H3 := Hid.mk' h3
      have HBT := Hid.mk' hbt
      clear h0 h1 h2 h3 hbt HI
      obtain ⟨M, hM⟩ : ∃ M, M = mixBy f b := ⟨_, rfl⟩
      have HML : Hid ((nts M).length = 16) := by show _ = _; rw [hM, nts_len, mixBy_len]
      rw [← hM] at H3
      have HM := Hid.mk' hM
      clear hM
      go_wp2_with (first
        | (refine wpList_load_u8s Try.underlying44 i16s rfl _ rfl (g + 3) (nts M) HML.out rfl H3.out ?_)
        | (refine wpList_store_u8s i16s rfl _ _ rfl (g + 2) (nts M) HML.out rfl (by exact rfl) _ (by simp [u8s]) H2.out ?_; intro w2 hb2 hbut2))
      refine bodyPost_ret (results_cell_row rfl _ _ (g + 2) _ _ _ _ rfl hb2 Try.underlying44 rfl (by rw [i16s]; simp [u8s, HML.out])) rfl ⟨by rw [HM.out], ?_⟩
      exact HBT.out.then hbut2 (fun i hi e => by have := HG.out; omega)
end Go.Proofs.Ythmjdebnjcopnaa
/- The reference's add. -/
namespace Go.Proofs.Ythmjdebnjcopnaa
open Go.RowKit

/-- A key's words in memory. -/
def Wr (w : World) (v : Value) (W : List (List B8)) : Prop :=
  ∃ g cap, v = .slice (some ⟨g, 0, none⟩) W.length cap ∧ g < w.heap.size ∧ ∀ i j, i < W.length → j < 4 → w.cell? ⟨g, 4 * i + j, none⟩ = some (.int .u8 (b8 (at8 (W.getD i []) j) : Nat))
theorem Wr.but {R : Nat → Prop} {w w' : World} {v : Value} {W : List (List B8)} (h : Wr w v W) (k : But R w w') (hr : ∀ g, v.ownBlock = some g → ¬ R g) : Wr w' v W := by
  obtain ⟨g, cap, rfl, hg, hc⟩ := h
  refine ⟨g, cap, rfl, Nat.lt_of_lt_of_le hg k.size, fun i j hi hj => ?_⟩
  rw [← hc i j hi hj]
  exact World.cell?_of_block (k.block g hg (hr g rfl))
/-- All boxes, all back boxes. -/
def allBx : List B8 := (List.range 256).map fun i => bx (BitVec.ofNat 8 i)
def allBk : List B8 := (List.range 256).map fun i => bk (BitVec.ofNat 8 i)
theorem allBx_len : allBx.length = 256 := by simp [allBx]
theorem allBk_len : allBk.length = 256 := by simp [allBk]
theorem allBx_at (x : B8) : at8 allBx (b8 x) = bx x := by
  have hx := b8_lt x
  have e : BitVec.ofNat 8 (b8 x) = x := b8_inj (b8_of _ hx)
  simp [at8, allBx, List.getD, hx, e]
theorem allBk_at (x : B8) : at8 allBk (b8 x) = bk x := by
  have hx := b8_lt x
  have e : BitVec.ofNat 8 (b8 x) = x := b8_inj (b8_of _ hx)
  simp [at8, allBk, List.getD, hx, e]
/-- A key as a value. -/
def keyV (v : Value) : List Value := v :: (u8s (nts allBx) ++ u8s (nts allBk))
theorem keyV_len (v : Value) : (keyV v).length = 513 := by
  unfold keyV u8s; rw [List.length_cons, List.length_append, List.length_map, List.length_map, nts_len, nts_len, allBx_len, allBk_len]
def partAdd (W : List (List B8)) (r : Nat) (b : List B8) (k : Nat) : List B8 := mk16 fun i => if i < k then at8 b i ^^^ at8 (W.getD (4 * r + i / 4) []) (i % 4) else at8 b i
theorem partAdd_len (W : List (List B8)) (r : Nat) (b : List B8) (k : Nat) : (partAdd W r b k).length = 16 := mk16_len _
theorem partAdd_zero (W : List (List B8)) (r : Nat) (b : List B8) (hb : b.length = 16) : partAdd W r b 0 = b := by
  refine at8_ext (partAdd_len _ _ _ _) hb (fun i hi => ?_)
  unfold partAdd; rw [mk16_at _ i hi, if_neg (Nat.not_lt_zero _)]
theorem partAdd_all (W : List (List B8)) (r : Nat) (b : List B8) : partAdd W r b 16 = addK W r b := by
  refine at8_ext (partAdd_len _ _ _ _) (addK_len _ _ _) (fun i hi => ?_)
  unfold partAdd addK; rw [mk16_at _ i hi, mk16_at _ i hi, if_pos hi]
theorem partAdd_at (W : List (List B8)) (r : Nat) (b : List B8) (k : Nat) (h : k < 16) : at8 (partAdd W r b k) k = at8 b k := by
  unfold partAdd; rw [mk16_at _ k h, if_neg (Nat.lt_irrefl _)]
theorem partAdd_set (W : List (List B8)) (r : Nat) (b : List B8) (k : Nat) (h : k < 16) : (partAdd W r b k).set k (at8 b k ^^^ at8 (W.getD (4 * r + k / 4) []) (k % 4)) = partAdd W r b (k + 1) := by
  refine at8_ext (by rw [List.length_set]; exact partAdd_len _ _ _ _) (partAdd_len _ _ _ _) (fun i hi => ?_)
  rw [at8_set _ _ _ _ (by rw [partAdd_len]; exact h)]
  unfold partAdd
  rw [mk16_at _ i hi, mk16_at _ i hi]
  by_cases h2 : i = k
  · subst h2; rw [if_pos rfl, if_pos (Nat.lt_succ_self _)]
  · rw [if_neg h2]
    by_cases h3 : i < k
    · rw [if_pos h3, if_pos (by omega)]
    · rw [if_neg h3, if_neg (by omega)]
/-- What memory is amid add. -/
structure AddI (w : World) (g : Nat) (v : Value) (W : List (List B8)) (r : Nat) (b : List B8) (k : Nat) (wr : World) : Prop where
  key : Blk wr g 31 (keyV v)
  out : Blk wr (g + 1) 44 (u8s (nts (partAdd W r b k)))
  res : Blk wr (g + 2) 44 (u8s (List.replicate 16 0))
  but : But (fun _ => False) w wr
set_option maxRecDepth 100000 in
set_option maxHeartbeats 1000000 in
theorem radd_any {w : World} {b : List B8} {W : List (List B8)} {v : Value} {r : Nat} (hb : b.length = 16) (hW : Wr w v W) (hr : 4 * r + 4 ≤ W.length) (hl : W.length ≤ 100) :
    Calls Try.prog 54 #[.agg (keyV v).toArray, .agg (u8s (nts b)).toArray, .int .i64 r] w fun e w' => e = .returned (.agg (u8s (nts (addK W r b))).toArray) ∧ But (fun _ => False) w w' := by
  have hz : ∀ w : World, (zeroValue 44).run Try.prog w = .ok (.agg (u8s (List.replicate 16 0)).toArray) w := fun _ => by kernel_rfl
  obtain ⟨Z, hZ⟩ : ∃ Z, Z = (u8s (List.replicate 16 0)).toArray := ⟨_, rfl⟩
  rw [← hZ] at hz
  obtain ⟨C, hC⟩ : ∃ C, C = (u8s (nts b)).toArray := ⟨_, rfl⟩
  obtain ⟨F, hF⟩ : ∃ F, F = (keyV v).toArray := ⟨_, rfl⟩
  rw [← hC, ← hF]
  have HZ := Hid.mk' hZ
  have HC := Hid.mk' hC
  have HF := Hid.mk' hF
  have HW := Hid.mk' hW
  clear hZ hC hF hW
  go_enter Try.func54, Try.ntmps54
  go_wp2
  obtain ⟨g, hg⟩ : ∃ g, g = w.heap.size := ⟨_, rfl⟩
  have hI : AddI w g v W r b 0 (((w.alloc (.cells F 31)).alloc (.cells C 44)).alloc (.cells Z 44)) := by
    rw [HC.out, HF.out, HZ.out]
    have al : ∀ (x : World) (o : Obj), But (fun _ => False) x (x.alloc o) := fun x o => (But.refl _ x).alloc o
    refine ⟨?_, ?_, ?_, ((((But.refl _ w).alloc _).alloc _).alloc _)⟩
    · exact ((Blk.new hg.symm).but (al _ _) (fun h => h)).but (al _ _) (fun h => h)
    · rw [partAdd_zero W r b hb]; exact (Blk.new (by simp [hg])).but (al _ _) (fun h => h)
    · exact Blk.new (by simp [hg])
  rw [← hg, show g + 1 + 1 = g + 2 from rfl]
  generalize (((w.alloc (.cells F 31)).alloc (.cells C 44)).alloc (.cells Z 44)) = W0 at *
  have HI := Hid.mk' hI
  have HG := Hid.mk' hg
  clear hI hg hz HZ HC HF
  go_loopw [7] (fun i wr => ∃ k : Nat, k ≤ 16 ∧ i = .int .i64 k ∧ AddI w g v W r b k wr) (fun i _ => 16 - (intOf i).toNat)
  case atStart => exact ⟨0, by decide, rfl, HI.out⟩
  case round =>
    obtain ⟨k, hk, rfl, hI⟩ := hrel
    have HI := Hid.mk' hI
    clear hI
    by_cases hlt : k < 16
    · have hki : (k : Int) < 16 := by omega
      obtain ⟨q, hq⟩ : ∃ q, q = 4 * r := ⟨_, rfl⟩
      obtain ⟨d, hd⟩ : ∃ d, d = k / 4 := ⟨_, rfl⟩
      obtain ⟨m, hm⟩ : ∃ m, m = q + d := ⟨_, rfl⟩
      obtain ⟨t, ht⟩ : ∃ t, t = k % 4 := ⟨_, rfl⟩
      have w1 : IntKind.i64.wrap (4 * (r : Int)) = (q : Int) := by rw [wrap_mid _ (by omega) (by omega)]; omega
      have w2 : Int.tdiv (k : Int) 4 = (d : Int) := by rw [Int.tdiv_eq_ediv_of_nonneg (by omega)]; omega
      have w3 : IntKind.i64.wrap (d : Int) = (d : Int) := wrap_mid _ (by omega) (by omega)
      have w4 : IntKind.i64.wrap ((q : Int) + (d : Int)) = (m : Int) := by rw [wrap_mid _ (by omega) (by omega)]; omega
      have w5 : Int.tmod (k : Int) 4 = (t : Int) := by rw [Int.tmod_eq_emod_of_nonneg (by omega)]; omega
      have ht4 : t < 4 := by omega
      have b2 : (t : Int) < 4 := by omega
      have hmn : m < W.length := by omega
      have hWr := HW.out.but HI.out.but (fun _ _ h => h)
      obtain ⟨gw, cap, rfl, hgw, hcw⟩ := hWr
      have c3 := hcw m t hmn ht4
      have c3' : wr.cell? ⟨gw, m * 4 + t, none⟩ = some (.int .u8 (b8 (at8 (W.getD m []) t) : Nat)) := by rw [Nat.mul_comm]; exact c3
      have c1 := blk_nts HI.out.out k (by rw [partAdd_len]; exact hlt)
      rw [partAdd_at W r b k hlt] at c1
      have c0 : wr.cell? ⟨g, 0, none⟩ = some (.slice (some ⟨gw, 0, none⟩) W.length cap) := by rw [HI.out.key.cell]; rfl
      have hfr := HI.out.out.free k
      have hxor := xor_b8 (at8 b k) (at8 (W.getD m []) t)
      have HX : Hid (at8 b k ^^^ at8 (W.getD m []) t = at8 b k ^^^ at8 (W.getD (4 * r + k / 4) []) (k % 4)) := by
        show _ = _
        rw [show 4 * r + k / 4 = m by omega, ht]
      have hb3 : (m : Int) < (W.length : Int) := by omega
      obtain ⟨n, hn⟩ : ∃ n, n = W.length := ⟨_, rfl⟩
      rw [← hn] at c0 hb3
      have hmn' : m < n := by omega
      clear hq hd hm ht hcw hn
      generalize hX : at8 b k = X at *
      generalize hY : at8 (W.getD m []) t = Y at *
      have HXX := Hid.mk' hX
      clear hX hY
      go_wp2
      refine region_ends (l := [_, _, _, _, _, _, _, _, _, _, _, _, _, _, _, _, _, _]) (o := _) (by kernel_rfl) (by kernel_rfl) (by kernel_rfl) rfl (by kernel_rfl) (by kernel_rfl) ?_
      repeat (quiet_step (fail))
      refine wpQuiet_nil ?_
      intro _ hw'
      obtain ⟨nq, hw''⟩ := hw'
      subst hw''
      go_wp2
      refine ⟨⟨k + 1, by omega, by go_num, ?_⟩, by simp [intOf]; omega⟩
      have h := HI.out
      have hs : But (· = g + 1) wr (wr.setCell ⟨g + 1, k, none⟩ (.int .u8 (b8 (X ^^^ Y) : Nat))) := (But.refl (· = g + 1) wr).setCell (p := ⟨g + 1, k, none⟩) (fun _ => rfl) _
      have hs2 := hs.drewN (n := nq)
      refine ⟨h.key.but hs2 (show ¬ (g = g + 1) by omega), ?_, h.res.but hs2 (show ¬ (g + 2 = g + 1) by omega), h.but.then hs2 (fun i hi e => by have := HG.out; omega)⟩
      rw [← partAdd_set W r b k hlt, HXX.out, ← HX.out]
      exact blk_nts_set h.out k _
    · have hk16 : k = 16 := by omega
      subst hk16
      obtain ⟨h0, h1, h2, hbt⟩ := HI.out
      rw [partAdd_all] at h1
      have H1 := Hid.mk' h1
      have H2 := Hid.mk' h2
      have HBT := Hid.mk' hbt
      clear h0 h1 h2 hbt HI
      obtain ⟨M, hM⟩ : ∃ M, M = addK W r b := ⟨_, rfl⟩
      have HML : Hid ((nts M).length = 16) := by show _ = _; rw [hM, nts_len, addK_len]
      rw [← hM] at H1
      have HM := Hid.mk' hM
      clear hM
      go_wp2_with (first
        | (refine wpList_load_u8s Try.underlying44 i16s rfl _ rfl (g + 1) (nts M) HML.out rfl H1.out ?_)
        | (refine wpList_store_u8s i16s rfl _ _ rfl (g + 2) (nts M) HML.out rfl (by exact rfl) _ (by simp [u8s]) H2.out ?_; intro w2 hb2 hbut2))
      refine bodyPost_ret (results_cell_row rfl _ _ (g + 2) _ _ _ _ rfl hb2 Try.underlying44 rfl (by rw [i16s]; simp [u8s, HML.out])) rfl ⟨by rw [HM.out], ?_⟩
      exact HBT.out.then hbut2 (fun i hi e => by have := HG.out; omega)
end Go.Proofs.Ythmjdebnjcopnaa
/- The reference's Encrypt. -/
namespace Go.Proofs.Ythmjdebnjcopnaa
open Go.RowKit

def partSubs (b : List B8) (m : Nat) : List B8 := mk16 fun i => if i < m then bx (at8 b (4 * ((i / 4 + i % 4) % 4) + i % 4)) else 0
theorem partSubs_len (b : List B8) (m : Nat) : (partSubs b m).length = 16 := mk16_len _
theorem partSubs_zero (b : List B8) : partSubs b 0 = List.replicate 16 0 := by
  refine at8_ext (partSubs_len _ _) (by simp) (fun i hi => ?_)
  have e : at8 (List.replicate 16 (0 : B8)) i = 0 := by unfold at8 List.getD; rw [List.getElem?_replicate, if_pos hi]; rfl
  unfold partSubs; rw [mk16_at _ i hi, if_neg (Nat.not_lt_zero _), e]
theorem partSubs_all (b : List B8) : partSubs b 16 = subs b := by
  refine at8_ext (partSubs_len _ _) (subs_len _) (fun i hi => ?_)
  unfold partSubs subs; rw [mk16_at _ i hi, mk16_at _ i hi, if_pos hi]
theorem partSubs_set (b : List B8) (m : Nat) (h : m < 16) : (partSubs b m).set m (bx (at8 b (4 * ((m / 4 + m % 4) % 4) + m % 4))) = partSubs b (m + 1) := by
  refine at8_ext (by rw [List.length_set]; exact partSubs_len _ _) (partSubs_len _ _) (fun i hi => ?_)
  rw [at8_set _ _ _ _ (by rw [partSubs_len]; exact h)]
  unfold partSubs
  rw [mk16_at _ i hi, mk16_at _ i hi]
  by_cases h2 : i = m
  · subst h2; rw [if_pos rfl, if_pos (Nat.lt_succ_self _)]
  · rw [if_neg h2]
    by_cases h3 : i < m
    · rw [if_pos h3, if_pos (by omega)]
    · rw [if_neg h3, if_neg (by omega)]
theorem key_box {w : World} {g : Nat} {T : TypeId} {v : Value} (h : Blk w g T (keyV v)) (x : B8) : w.cell? ⟨g, 1 + b8 x, none⟩ = some (.int .u8 (b8 (bx x) : Nat)) := by
  have hx := b8_lt x
  rw [h.cell]
  unfold keyV
  rw [show 1 + b8 x = b8 x + 1 by omega, List.getElem?_cons_succ, List.getElem?_append_left (by unfold u8s; rw [List.length_map, nts_len, allBx_len]; exact hx)]
  unfold u8s
  rw [List.getElem?_map, nts_at allBx _ (by rw [allBx_len]; exact hx), allBx_at]; rfl
theorem key_back {w : World} {g : Nat} {T : TypeId} {v : Value} (h : Blk w g T (keyV v)) (x : B8) : w.cell? ⟨g, 257 + b8 x, none⟩ = some (.int .u8 (b8 (bk x) : Nat)) := by
  have hx := b8_lt x
  rw [h.cell]
  unfold keyV
  have hl : (u8s (nts allBx)).length = 256 := by unfold u8s; rw [List.length_map, nts_len, allBx_len]
  rw [show 257 + b8 x = (256 + b8 x) + 1 by omega, List.getElem?_cons_succ, List.getElem?_append_right (by omega), hl, show 256 + b8 x - 256 = b8 x by omega]
  unfold u8s
  rw [List.getElem?_map, nts_at allBk _ (by rw [allBk_len]; exact hx), allBk_at]; rfl
/-- What memory is amid Encrypt, the state s. -/
structure EncI (w : World) (g : Nat) (v : Value) (s : List B8) (wr : World) : Prop where
  key : Blk wr g 31 (keyV v)
  st : Blk wr (g + 1) 44 (u8s (nts s))
  res : Blk wr (g + 2) 44 (u8s (List.replicate 16 0))
  but : But (fun _ => False) w wr
theorem EncI.then {w wr w' : World} {g : Nat} {v : Value} {s : List B8} (h : EncI w g v s wr) (k : But (fun _ => False) wr w') : EncI w g v s w' :=
  ⟨h.key.but k (fun h => h), h.st.but k (fun h => h), h.res.but k (fun h => h), h.but.trans k⟩
theorem EncI.put {w wr w' : World} {g gt : Nat} {v : Value} {s : List B8} (h : EncI w g v s wr) (hg : g = w.heap.size) (hgt : g + 2 < gt) (k : But (· = gt) wr w') : EncI w g v s w' :=
  ⟨h.key.but k (show ¬ (g = gt) by omega), h.st.but k (show ¬ (g + 1 = gt) by omega), h.res.but k (show ¬ (g + 2 = gt) by omega), h.but.then k (fun i hi e => by omega)⟩
theorem EncI.state {w wr w' : World} {g : Nat} {v : Value} {s s' : List B8} (h : EncI w g v s wr) (hg : g = w.heap.size) (k : But (· = g + 1) wr w') (hb : Blk w' (g + 1) 44 (u8s (nts s'))) : EncI w g v s' w' :=
  ⟨h.key.but k (show ¬ (g = g + 1) by omega), hb, h.res.but k (show ¬ (g + 2 = g + 1) by omega), h.but.then k (fun i hi e => by omega)⟩
theorem u8l (l : List B8) (h : l.length = 16) : (u8s (nts l)).length = 16 := by unfold u8s; rw [List.length_map, nts_len]; exact h
theorem n16 (l : List B8) (h : l.length = 16) : (nts l).length = 16 := by rw [nts_len]; exact h
theorem iKey : (Try.prog.info? 31).map (·.size) = some 513 := by kernel_rfl
theorem wpList_load_key {w : World} {ops : Array Oper} {rest : List Oper} {o : Oper} {a : Act} {Q : Exit → Act → World → Prop} {v : Value} (h1 : o.guard = none) (x : Operand) (h2 : o.op = .load 31 x) (g : Nat) (h3 : a.eval x = .pointer (some ⟨g, 0, none⟩)) (h4 : Blk w g 31 (keyV v))
    (h5 : wpList Try.prog ops Q rest (a.put o.dst (.agg (keyV v).toArray)) w) : wpList Try.prog ops Q (o :: rest) a w :=
  wpList_load_row h1 31 x h2 g h3 31 _ (0, 0) _ h4 Try.underlying31 rfl (by rw [iKey]; simp [keyV_len]) h5
set_option maxRecDepth 100000 in
set_option maxHeartbeats 1000000 in
theorem renc_any {w : World} {b : List B8} {W : List (List B8)} {v : Value} (hb : b.length = 16) (hW : Wr w v W) (hl : W.length = 44 ∨ W.length = 60) :
    Calls Try.prog 34 #[.agg (keyV v).toArray, .agg (u8s (nts b)).toArray] w fun e w' => e = .returned (.agg (u8s (nts (enc W b))).toArray) ∧ But (fun _ => False) w w' := by
  have hz : ∀ w : World, (zeroValue 44).run Try.prog w = .ok (.agg (u8s (List.replicate 16 0)).toArray) w := fun _ => by kernel_rfl
  obtain ⟨Z, hZ⟩ : ∃ Z, Z = (u8s (List.replicate 16 0)).toArray := ⟨_, rfl⟩
  rw [← hZ] at hz
  obtain ⟨C, hC⟩ : ∃ C, C = (u8s (nts b)).toArray := ⟨_, rfl⟩
  obtain ⟨F, hF⟩ : ∃ F, F = (keyV v).toArray := ⟨_, rfl⟩
  rw [← hC, ← hF]
  have HZ := Hid.mk' hZ
  have HC := Hid.mk' hC
  have HF := Hid.mk' hF
  have HW := Hid.mk' hW
  clear hZ hC hF hW
  obtain ⟨g, hg⟩ : ∃ g, g = w.heap.size := ⟨_, rfl⟩
  obtain ⟨W0, hW0⟩ : ∃ W0, W0 = (((w.alloc (.cells F 31)).alloc (.cells C 44)).alloc (.cells Z 44)) := ⟨_, rfl⟩
  have hI : EncI w g v b W0 := by
    rw [hW0, HC.out, HF.out, HZ.out]
    have al : ∀ (x : World) (o : Obj), But (fun _ => False) x (x.alloc o) := fun x o => (But.refl _ x).alloc o
    refine ⟨?_, ?_, ?_, ((((But.refl _ w).alloc _).alloc _).alloc _)⟩
    · exact ((Blk.new hg.symm).but (al _ _) (fun h => h)).but (al _ _) (fun h => h)
    · exact (Blk.new (by simp [hg])).but (al _ _) (fun h => h)
    · exact Blk.new (by simp [hg])
  have HI := Hid.mk' hI
  have HG := Hid.mk' hg
  have HW0 := Hid.mk' hW0
  obtain ⟨gw, cap, hv, hgw, _⟩ := HW.out
  have HV := Hid.mk' hv
  have c0 : (((w.alloc (.cells F 31)).alloc (.cells C 44)).alloc (.cells Z 44)).cell? ⟨w.heap.size, 0, none⟩ = some (.slice (some ⟨gw, 0, none⟩) W.length cap) := by
    rw [← hW0, ← hg, ← hv, hI.key.cell]; rfl
  obtain ⟨n, hn⟩ : ∃ n, n = W.length := ⟨_, rfl⟩
  rw [← hn] at c0 hl
  obtain ⟨q, hq⟩ : ∃ q, q = n / 4 := ⟨_, rfl⟩
  obtain ⟨L, hL⟩ : ∃ L, L = q - 1 := ⟨_, rfl⟩
  have hL1 : 1 ≤ L := by omega
  have hL2 : L ≤ 14 := by omega
  have HLN : Hid (4 * L + 4 = n) := by show _ = _; omega
  have HN := Hid.mk' hn
  have d1 : Int.tdiv (n : Int) 4 = (q : Int) := by rw [Int.tdiv_eq_ediv_of_nonneg (by omega)]; omega
  have d2 : (n : Int) / 4 = (q : Int) := by omega
  have d3 : (q : Int) - 1 = (L : Int) := by omega
  have HEL : Hid (W.length / 4 - 1 = L) := by show _ = _; rw [← hn, ← hq, ← hL]
  have hq16 : q ≤ 15 := by omega
  have hn60 : n ≤ 60 := by omega
  clear hI hg hW0 hv hn hq hL hl hgw
  go_enter Try.func34, Try.ntmps34
  have HK0 : Hid (Blk (((w.alloc (.cells F 31)).alloc (.cells C 44)).alloc (.cells Z 44)) w.heap.size 31 (keyV v)) := by rw [← HW0.out, ← HG.out]; exact HI.out.key
  have HS0 : Hid (Blk (((w.alloc (.cells F 31)).alloc (.cells C 44)).alloc (.cells Z 44)) (w.heap.size + 1) 44 (u8s (nts b))) := by rw [← HW0.out, ← HG.out]; exact HI.out.st
  have HBL : Hid ((nts b).length = 16) := by show _ = _; rw [nts_len]; exact hb
  have HBL' : Hid ((u8s (nts b)).length = 16) := by show _ = _; unfold u8s; rw [List.length_map, nts_len]; exact hb
  have HB := Hid.mk' hb
  clear hb
  go_wp2_with (first
    | (refine wpList_load_key rfl _ rfl w.heap.size rfl HK0.out ?_)
    | (refine wpList_load_u8s Try.underlying44 i16s rfl _ rfl (w.heap.size + 1) (nts b) HBL.out rfl HS0.out ?_)
    | fail)
  rw [← HW0.out, ← HG.out]
  refine Calls.mono (radd_any (r := 0) HB.out (HW.out.but HI.out.but (fun _ _ h => h)) (by rw [← HN.out]; have := HLN.out; omega) (by rw [← HN.out]; omega)) ?_
  rintro e w1 ⟨rfl, hbut1⟩
  have HI1 := Hid.mk' (HI.out.then hbut1)
  clear hbut1 HI HK0 HS0 c0 HW0
  obtain ⟨S0, hS0⟩ : ∃ S0, S0 = addK W 0 b := ⟨_, rfl⟩
  rw [← hS0]
  have HSL : Hid ((nts S0).length = 16) := by show _ = _; rw [hS0, nts_len, addK_len]
  have HS0 := Hid.mk' hS0
  clear hS0
  go_wp2_with (first
    | (refine wpList_store_u8s i16s rfl _ _ rfl (g + 1) (nts S0) HSL.out rfl (by exact rfl) _ HBL'.out HI1.out.st ?_; intro w2 hb2 hbut2)
    | fail)
  have HI2 : Hid (EncI w g v S0 w2) := by
    have h := HI1.out
    have hs : w.heap.size = g := HG.out.symm
    exact ⟨h.key.but hbut2 (show ¬ (g = g + 1) by omega), hb2, h.res.but hbut2 (show ¬ (g + 2 = g + 1) by omega), h.but.then hbut2 (fun i hi e => by omega)⟩
  rw [show g + 1 + 1 = g + 2 from rfl]
  clear hb2 hbut2 HI1 HB HBL HBL'
  obtain ⟨KV, hKV⟩ : ∃ KV, KV = (keyV v).toArray := ⟨_, rfl⟩
  rw [← hKV]
  generalize (u8s (nts b)).toArray = BV
  generalize (u8s (nts S0)).toArray = SV
  clear hKV
  go_loopw [6] (fun i wr => ∃ k : Nat, k ≤ L ∧ i = .int .i64 (k + 1 : Nat) ∧ EncI w g v (encR W L b k) wr) (fun i _ => 20 - (intOf i).toNat)
  case atStart => exact ⟨0, by omega, rfl, by have h := HI2.out; rw [HS0.out] at h; exact h⟩
  case round =>
    obtain ⟨k, hk, rfl, hI⟩ := hrel
    obtain ⟨S, hS⟩ : ∃ S, S = encR W L b k := ⟨_, rfl⟩
    rw [← hS] at hI
    have HSL : Hid (S.length = 16) := by show _ = _; rw [hS, encR_len]
    have HSE := Hid.mk' hS
    clear hS HI2
    have HI := Hid.mk' hI
    clear hI
    by_cases hlt : k < L
    · obtain ⟨x, hx⟩ : ∃ x, x = k + 1 := ⟨_, rfl⟩
      rw [← hx]
      have hxl : (x : Int) ≤ (L : Int) := by omega
      have HX := Hid.mk' hx
      obtain ⟨wo, hwo⟩ : ∃ wo, wo = wr := ⟨_, rfl⟩
      subst hwo
      have hxL : x ≤ L := by omega
      clear hx
      go_wp2
      obtain ⟨gt, hgt⟩ : ∃ gt, gt = wo.heap.size := ⟨_, rfl⟩
      rw [← hgt]
      have HGT : Hid (g + 2 < gt) := by show _ < _; rw [hgt]; exact HI.out.res.lt
      have HA : Hid (EncI w g v S (wo.alloc (.cells Z 44))) := HI.out.then ((But.refl _ _).alloc _)
      have HT : Hid (Blk (wo.alloc (.cells Z 44)) gt 44 (u8s (nts (partSubs S 0)))) := by
        rw [partSubs_zero, HZ.out]; exact Blk.new hgt.symm
      generalize wo.alloc (.cells Z 44) = W1 at *
      clear hgt HI
      go_loopw [8] (fun i wr => ∃ c : Nat, c ≤ 4 ∧ i = .int .i64 c ∧ EncI w g v S wr ∧ Blk wr gt 44 (u8s (nts (partSubs S (4 * c))))) (fun i _ => 4 - (intOf i).toNat)
      case atStart => exact ⟨0, by decide, rfl, HA.out, HT.out⟩
      case round =>
        obtain ⟨c, hc, rfl, hI, hT⟩ := hrel
        have HI := Hid.mk' hI
        have HT2 := Hid.mk' hT
        clear hI hT HA HT
        obtain ⟨wp, hwp⟩ : ∃ wp, wp = wr := ⟨_, rfl⟩
        subst hwp
        by_cases hc4 : c < 4
        · have hci : (c : Int) < 4 := by omega
          go_wp2
          go_loopw [9] (fun i wr => ∃ r : Nat, r ≤ 4 ∧ i = .int .i64 r ∧ EncI w g v S wr ∧ Blk wr gt 44 (u8s (nts (partSubs S (4 * c + r))))) (fun i _ => 4 - (intOf i).toNat)
          case atStart => exact ⟨0, by decide, rfl, HI.out, HT2.out⟩
          case round =>
            obtain ⟨r, hr, rfl, hI, hT⟩ := hrel
            have HI3 := Hid.mk' hI
            have HT3 := Hid.mk' hT
            clear hI hT HI HT2
            by_cases hr4 : r < 4
            · have hri : (r : Int) < 4 := by omega
              obtain ⟨y, hy⟩ : ∃ y, y = (c + r) % 4 := ⟨_, rfl⟩
              have w5 : Int.tmod ((c : Int) + (r : Int)) 4 = (y : Int) := by rw [Int.tmod_eq_emod_of_nonneg (by omega)]; omega
              have w6 : ((c : Int) + (r : Int)) % 4 = (y : Int) := by omega
              have hy4 : y < 4 := by omega
              have c1 := blk_nts HI3.out.st (4 * y + r) (by rw [HSL.out]; omega)
              have c2 := key_box HI3.out.key (at8 S (4 * y + r))
              have c3 := blk_nts HT3.out (4 * c + r) (by rw [partSubs_len]; omega)
              have hfr := HT3.out.free (4 * c + r)
              have HXX : Hid (at8 S (4 * y + r) = at8 S (4 * (((4 * c + r) / 4 + (4 * c + r) % 4) % 4) + (4 * c + r) % 4)) := by
                show _ = _
                rw [show (4 * c + r) / 4 = c by omega, show (4 * c + r) % 4 = r by omega, hy]
              generalize at8 S (4 * y + r) = X at *
              have hX := b8_lt X
              clear hy
              go_wp2
              have hs : But (· = gt) wr (wr.setCell ⟨gt, 4 * c + r, none⟩ (.int .u8 (b8 (bx X) : Nat))) := (But.refl (· = gt) wr).setCell (p := ⟨gt, 4 * c + r, none⟩) (fun _ => rfl) _
              refine ⟨⟨r + 1, by omega, by go_num, HI3.out.put HG.out HGT.out hs, ?_⟩, by simp [intOf]; omega⟩
              rw [← Nat.add_assoc, ← partSubs_set S (4 * c + r) (by omega), ← HXX.out]
              exact blk_nts_set HT3.out _ _
            · have hr4 : r = 4 := by omega
              subst hr4
              go_wp2
              refine ⟨⟨c + 1, by omega, by go_num, HI3.out, ?_⟩, by simp [intOf]; omega⟩
              rw [Nat.mul_add]
              exact HT3.out
        · have hc4 : c = 4 := by omega
          subst hc4
          obtain ⟨T, hT⟩ : ∃ T, T = subs S := ⟨_, rfl⟩
          rw [show 4 * 4 = 16 from rfl, partSubs_all, ← hT] at HT2
          have HTL : Hid (T.length = 16) := by show _ = _; rw [hT, subs_len]
          have HTE := Hid.mk' hT
          clear hT
          by_cases hm : x < L
          · have hmi : (x : Int) < (L : Int) := by omega
            go_wp2_with (first
              | (refine wpList_load_u8s Try.underlying44 i16s rfl _ rfl gt (nts T) (n16 T HTL.out) rfl HT2.out ?_)
              | (refine wpList_build rfl _ _ rfl (by kernel_rfl) ?_; rw [show (Try.prog.built 58 _).getD #[] = (u8s (nts fwd)).toArray by kernel_rfl])
              | fail)
            refine Calls.mono (mixed_any HTL.out rfl) ?_
            rintro e w3 ⟨rfl, hbut3⟩
            have HI3 := Hid.mk' (HI.out.then hbut3)
            have HT3 := Hid.mk' (HT2.out.but hbut3 (fun h => h))
            clear hbut3 HI HT2
            obtain ⟨M, hM⟩ : ∃ M, M = mixBy fwd T := ⟨_, rfl⟩
            have HML : Hid (M.length = 16) := by show _ = _; rw [hM, mixBy_len]
            rw [← hM]
            have HM := Hid.mk' hM
            clear hM
            go_wp2_with (first
              | (refine wpList_store_u8s i16s rfl _ _ rfl gt (nts M) (n16 M HML.out) rfl (by exact rfl) _ (u8l T HTL.out) HT3.out ?_; intro w4 hb4 hbut4; have HK4 := Hid.mk' (HI3.out.put HG.out HGT.out hbut4))
              | (refine wpList_load_key rfl _ rfl g rfl HK4.out.key ?_)
              | (refine wpList_load_u8s Try.underlying44 i16s rfl _ rfl gt (nts M) (n16 M HML.out) rfl hb4 ?_)
              | fail)
            refine Calls.mono (radd_any (r := x) HML.out (HW.out.but HK4.out.but (fun _ _ h => h)) (by rw [← HN.out]; have := HLN.out; omega) (by rw [← HN.out]; omega)) ?_
            rintro e w5 ⟨rfl, hbut5⟩
            have HI5 := Hid.mk' (HK4.out.then hbut5)
            clear hbut5 hbut4 hb4 HK4 HI3 HT3
            obtain ⟨A, hA⟩ : ∃ A, A = addK W x M := ⟨_, rfl⟩
            have HAL : Hid (A.length = 16) := by show _ = _; rw [hA, addK_len]
            have HAE : Hid (A = encR W L b (k + 1)) := by
              rw [hA, HM.out, HTE.out, HSE.out, HX.out]
              show _ = addK W (k + 1) (if k + 1 < L then _ else _)
              rw [if_pos (by have := HX.out; omega)]
            rw [← hA]
            clear hA
            go_wp2_with (first
              | (refine wpList_store_u8s i16s rfl _ _ rfl (g + 1) (nts A) (n16 A HAL.out) rfl (by exact rfl) _ (u8l S HSL.out) HI5.out.st ?_; intro w6 hb6 hbut6)
              | fail)
            have hxx := HX.out
            refine ⟨⟨k + 1, by omega, by rw [hxx]; go_num, ?_⟩, by simp [intOf]; omega⟩
            rw [← HAE.out]
            exact HI5.out.state HG.out hbut6 hb6
          · have hmi : ¬ ((x : Int) < (L : Int)) := by omega
            go_wp2_with (first
              | (refine wpList_load_key rfl _ rfl g rfl HI.out.key ?_)
              | (refine wpList_load_u8s Try.underlying44 i16s rfl _ rfl gt (nts T) (n16 T HTL.out) rfl HT2.out ?_)
              | fail)
            refine Calls.mono (radd_any (r := x) HTL.out (HW.out.but HI.out.but (fun _ _ h => h)) (by rw [← HN.out]; have := HLN.out; omega) (by rw [← HN.out]; omega)) ?_
            rintro e w5 ⟨rfl, hbut5⟩
            have HI5 := Hid.mk' (HI.out.then hbut5)
            clear hbut5 HI HT2
            obtain ⟨A, hA⟩ : ∃ A, A = addK W x T := ⟨_, rfl⟩
            have HAL : Hid (A.length = 16) := by show _ = _; rw [hA, addK_len]
            have HAE : Hid (A = encR W L b (k + 1)) := by
              rw [hA, HTE.out, HSE.out, HX.out]
              show _ = addK W (k + 1) (if k + 1 < L then _ else _)
              rw [if_neg (by have := HX.out; omega)]
            rw [← hA]
            clear hA
            go_wp2_with (first
              | (refine wpList_store_u8s i16s rfl _ _ rfl (g + 1) (nts A) (n16 A HAL.out) rfl (by exact rfl) _ (u8l S HSL.out) HI5.out.st ?_; intro w6 hb6 hbut6)
              | fail)
            have hxx := HX.out
            refine ⟨⟨k + 1, by omega, by rw [hxx]; go_num, ?_⟩, by simp [intOf]; omega⟩
            rw [← HAE.out]
            exact HI5.out.state HG.out hbut6 hb6
    · have hkL : k = L := by omega
      have HEE : Hid (S = enc W b) := by
        show _ = _
        rw [HSE.out, hkL]; unfold enc; rw [HEL.out]
      have hki : ¬ (((k + 1 : Nat) : Int) ≤ (L : Int)) := by omega
      clear hkL
      go_wp2_with (first
        | (refine wpList_load_u8s Try.underlying44 i16s rfl _ rfl (g + 1) (nts S) (n16 S HSL.out) rfl HI.out.st ?_)
        | (refine wpList_store_u8s i16s rfl _ _ rfl (g + 2) (nts S) (n16 S HSL.out) rfl (by exact rfl) _ (by simp [u8s]) HI.out.res ?_; intro w2 hb2 hbut2))
      refine bodyPost_ret (results_cell_row rfl _ _ (g + 2) _ _ _ _ rfl hb2 Try.underlying44 rfl (by rw [i16s]; simp [u8s, n16 S HSL.out])) rfl ⟨by rw [HEE.out], ?_⟩
      exact HI.out.but.then hbut2 (fun i hi e => by have := HG.out; omega)
end Go.Proofs.Ythmjdebnjcopnaa
/- The reference's boxes. -/
namespace Go.Proofs.Ythmjdebnjcopnaa
open Go.RowKit

theorem i256s : (Try.prog.info? 29).map (·.size) = some 256 := by kernel_rfl
theorem results_cell_row2 {P : Program} {fn : Func} {p p2 : Tmp} {ty ty2 : TypeId} (h : fn.results = #[.cell p ty, .cell p2 ty2]) (tmps : Array Value) (w : World) (g g2 : Nat) (t t2 : TypeId) (cs cs2 : Array Value) (d d2 : TypeDesc)
    (hp : tmps.getD p undef = .pointer (some ⟨g, 0, none⟩)) (hg : w.heap[g]? = some (.cells cs t (0, 0))) (hu : P.underlying ty = some d) (hd : (match d with | .struct _ | .array _ _ => true | _ => false) = true) (hi : (P.info? ty).map (·.size) = some cs.size)
    (hp2 : tmps.getD p2 undef = .pointer (some ⟨g2, 0, none⟩)) (hg2 : w.heap[g2]? = some (.cells cs2 t2 (0, 0))) (hu2 : P.underlying ty2 = some d2) (hd2 : (match d2 with | .struct _ | .array _ _ => true | _ => false) = true) (hi2 : (P.info? ty2).map (·.size) = some cs2.size) :
    (results fn tmps).run P w = .ok (.tuple #[.agg cs, .agg cs2]) w := by
  have hp' : tmps[p]?.getD undef = .pointer (some ⟨g, 0, none⟩) := by simpa using hp
  have hp2' : tmps[p2]?.getD undef = .pointer (some ⟨g2, 0, none⟩) := by simpa using hp2
  simp [results, h, hp', hp2', asAddr, run_loadVar_row w g t ty cs (0, 0) d hg hu hd hi, run_loadVar_row w g2 t2 ty2 cs2 (0, 0) d2 hg2 hu2 hd2 hi2]
theorem allBx_of {D : List Nat} (hl : D.length = 256) (h : ∀ x : B8, D[b8 x]? = some (b8 (bx x))) : D = nts allBx := by
  apply List.ext_getElem?
  intro i
  by_cases hi : i < 256
  · obtain ⟨x, rfl⟩ := b8_get i hi
    rw [h x, nts_at allBx _ (by rw [allBx_len]; exact hi), allBx_at]
  · rw [List.getElem?_eq_none (by omega), List.getElem?_eq_none (by rw [nts_len, allBx_len]; omega)]
theorem allBk_of {D : List Nat} (hl : D.length = 256) (h : ∀ x : B8, D[b8 (bx x)]? = some (b8 x)) : D = nts allBk := by
  apply List.ext_getElem?
  intro i
  by_cases hi : i < 256
  · obtain ⟨x, rfl⟩ := b8_get i hi
    have e := h (bk x)
    rw [bx_bk] at e
    rw [e, nts_at allBk _ (by rw [allBk_len]; exact hi), allBk_at]
  · rw [List.getElem?_eq_none (by omega), List.getElem?_eq_none (by rw [nts_len, allBk_len]; omega)]
/-- What memory is amid boxes, the first k told. -/
structure BoxI (w : World) (g k : Nat) (wr : World) : Prop where
  r1 : Blk wr g 29 (u8s (List.replicate 256 0))
  r2 : Blk wr (g + 1) 29 (u8s (List.replicate 256 0))
  tab : ∃ D E : List Nat, D.length = 256 ∧ E.length = 256 ∧ (∀ x : B8, b8 x < k → D[b8 x]? = some (b8 (bx x)) ∧ E[b8 (bx x)]? = some (b8 x)) ∧ Blk wr (g + 2) 29 (u8s D) ∧ Blk wr (g + 3) 29 (u8s E)
  but : But (fun _ => False) w wr
set_option maxRecDepth 100000 in
set_option maxHeartbeats 1000000 in
theorem rboxes_any (w : World) :
    Calls Try.prog 26 #[] w fun e w' => e = .returned (.tuple #[.agg (u8s (nts allBx)).toArray, .agg (u8s (nts allBk)).toArray]) ∧ But (fun _ => False) w w' := by
  have hz : ∀ w : World, (zeroValue 29).run Try.prog w = .ok (.agg (u8s (List.replicate 256 0)).toArray) w := fun _ => by kernel_rfl
  obtain ⟨Z, hZ⟩ : ∃ Z, Z = (u8s (List.replicate 256 0)).toArray := ⟨_, rfl⟩
  rw [← hZ] at hz
  have HZ := Hid.mk' hZ
  clear hZ
  go_enter Try.func26, Try.ntmps26
  go_wp2
  obtain ⟨g, hg⟩ : ∃ g, g = w.heap.size := ⟨_, rfl⟩
  have hI : BoxI w g 0 ((((w.alloc (.cells Z 29)).alloc (.cells Z 29)).alloc (.cells Z 29)).alloc (.cells Z 29)) := by
    rw [HZ.out]
    have al : ∀ (x : World) (o : Obj), But (fun _ => False) x (x.alloc o) := fun x o => (But.refl _ x).alloc o
    refine ⟨?_, ?_, ⟨List.replicate 256 0, List.replicate 256 0, by simp, by simp, fun x h => absurd h (Nat.not_lt_zero _), ?_, ?_⟩, (((((But.refl _ w).alloc _).alloc _).alloc _).alloc _)⟩
    · exact (((Blk.new hg.symm).but (al _ _) (fun h => h)).but (al _ _) (fun h => h)).but (al _ _) (fun h => h)
    · exact ((Blk.new (by simp [hg])).but (al _ _) (fun h => h)).but (al _ _) (fun h => h)
    · exact (Blk.new (by simp [hg])).but (al _ _) (fun h => h)
    · exact Blk.new (by simp [hg])
  rw [← hg, show g + 1 + 1 + 1 = g + 3 from rfl, show g + 1 + 1 = g + 2 from rfl]
  generalize ((((w.alloc (.cells Z 29)).alloc (.cells Z 29)).alloc (.cells Z 29)).alloc (.cells Z 29)) = W0 at *
  have HI := Hid.mk' hI
  have HG := Hid.mk' hg
  clear hI hg hz HZ
  go_loopw [4] (fun i wr => ∃ k : Nat, k ≤ 256 ∧ i = .int .i64 k ∧ BoxI w g k wr) (fun i _ => 256 - (intOf i).toNat)
  case atStart => exact ⟨0, by decide, rfl, HI.out⟩
  case round =>
    obtain ⟨k, hk, rfl, hI⟩ := hrel
    have HI := Hid.mk' hI
    clear hI
    by_cases hlt : k < 256
    · obtain ⟨I, rfl⟩ := b8_get k hlt
      have hlti : (b8 I : Int) < 256 := by omega
      obtain ⟨D, E, hD, hE, hx, h2, h3⟩ := HI.out.tab
      have f2 := h2.free (b8 I)
      have f3 := h3.free (b8 (bx I))
      have hs := b8_lt (bx I)
      have c2 := h2.cell (b8 I)
      rw [u8s_get D _ (by rw [hD]; exact hlt)] at c2
      have c3 := h3.cell (b8 (bx I))
      rw [u8s_get E _ (by rw [hE]; exact hs)] at c3
      have H2 := Hid.mk' h2
      have H3 := Hid.mk' h3
      have HD := Hid.mk' hD
      have HE := Hid.mk' hE
      have HX := Hid.mk' hx
      clear h2 h3 hD hE hx
      go_wp2_with fail
      refine Calls.mono (rbox_any I wr) ?_
      rintro e w1 ⟨rfl, hw⟩
      have hw' := hw.symm
      subst hw'
      go_wp2
      obtain ⟨W1, hW1⟩ : ∃ W1, W1 = wr.setCell ⟨g + 2, b8 I, none⟩ (.int .u8 (b8 (bx I) : Nat)) := ⟨_, rfl⟩
      rw [← hW1]
      have k1 : But (· = g + 2) wr W1 := by rw [hW1]; exact (But.refl (· = g + 2) wr).setCell (p := ⟨g + 2, b8 I, none⟩) (fun _ => rfl) _
      have k2 : But (· = g + 3) W1 (W1.setCell ⟨g + 3, b8 (bx I), none⟩ (.int .u8 (b8 I : Nat))) := (But.refl (· = g + 3) W1).setCell (p := ⟨g + 3, b8 (bx I), none⟩) (fun _ => rfl) _
      have hgg := HG.out
      refine ⟨⟨b8 I + 1, by omega, by go_num, ⟨(HI.out.r1.but k1 (show ¬ (g = g + 2) by omega)).but k2 (show ¬ (g = g + 3) by omega), (HI.out.r2.but k1 (show ¬ (g + 1 = g + 2) by omega)).but k2 (show ¬ (g + 1 = g + 3) by omega), ⟨D.set (b8 I) (b8 (bx I)), E.set (b8 (bx I)) (b8 I), by simp [HD.out], by simp [HE.out], ?_, ?_, ?_⟩, (HI.out.but.then k1 (fun i hi e => by omega)).then k2 (fun i hi e => by omega)⟩⟩, by simp [intOf]; omega⟩
      · intro x hx
        by_cases e : x = I
        · subst e
          exact ⟨List.getElem?_set_self (by rw [HD.out]; exact hlt), List.getElem?_set_self (by rw [HE.out]; exact hs)⟩
        · have n1 : b8 I ≠ b8 x := fun h => e (b8_inj h.symm)
          have n2 : b8 (bx I) ≠ b8 (bx x) := fun h => e (bx_inj (b8_inj h.symm))
          rw [List.getElem?_set_ne n1, List.getElem?_set_ne n2]
          exact HX.out x (by omega)
      · rw [← u8s_set]
        have h : Blk W1 (g + 2) 29 ((u8s D).set (b8 I) (.int .u8 (b8 (bx I) : Nat))) := by rw [hW1]; exact H2.out.set _ _
        exact h.but k2 (show ¬ (g + 2 = g + 3) by omega)
      · rw [← u8s_set]
        exact (H3.out.but k1 (show ¬ (g + 3 = g + 2) by omega)).set _ _
    · have hk6 : k = 256 := by omega
      subst hk6
      obtain ⟨D, E, hD, hE, hx, h2, h3⟩ := HI.out.tab
      obtain rfl := allBx_of hD (fun x => (hx x (b8_lt x)).1)
      obtain rfl := allBk_of hE (fun x => (hx x (b8_lt x)).2)
      have r1 := HI.out.r1
      have r2 := HI.out.r2
      have hbt := HI.out.but
      have hgg := HG.out
      clear hx HI
      obtain ⟨X, hX⟩ : ∃ X, X = nts allBx := ⟨_, rfl⟩
      obtain ⟨Y, hY⟩ : ∃ Y, Y = nts allBk := ⟨_, rfl⟩
      rw [← hX] at h2 hD
      rw [← hY] at h3 hE
      have HX := Hid.mk' hX
      have HY := Hid.mk' hY
      have H2 := Hid.mk' h2
      have H3 := Hid.mk' h3
      have R1 := Hid.mk' r1
      have R2 := Hid.mk' r2
      have HBT := Hid.mk' hbt
      have HD := Hid.mk' hD
      have HE := Hid.mk' hE
      have HGG := Hid.mk' hgg
      clear hX hY h2 h3 r1 r2 hbt hD hE hgg
      go_wp2
      refine region_inv (by kernel_rfl) (by kernel_rfl) (by kernel_rfl) (fun l a wx => ∃ (l0 l1 l2 l3 : Bool) (y20 y21 : Value), l = [l0, l1, l2, l3] ∧
        a = ⟨#[.pointer (some ⟨g, 0, none⟩), .pointer (some ⟨g + 1, 0, none⟩), .pointer (some ⟨g + 2, 0, none⟩), .pointer (some ⟨g + 3, 0, none⟩), .int .i64 (256 : Nat), u5, .int .i64 (256 : Nat), .bool false, u8, u9, u10, u11, u12, u13, u14, u15, u16, u17, u18, u19, y20, y21], []⟩ ∧
        (l0 = true → y20 = .agg (u8s X).toArray) ∧ (l1 = true → y21 = .agg (u8s Y).toArray) ∧ Blk wx (g + 2) 29 (u8s X) ∧ Blk wx (g + 3) 29 (u8s Y) ∧
        (l2 = false → Blk wx g 29 (u8s (List.replicate 256 0))) ∧ (l2 = true → Blk wx g 29 (u8s X)) ∧
        (l3 = false → Blk wx (g + 1) 29 (u8s (List.replicate 256 0))) ∧ (l3 = true → Blk wx (g + 1) 29 (u8s Y)) ∧ But (fun _ => False) w wx) ?_ ?_ ?_
      · exact ⟨false, false, false, false, undef, undef, rfl, rfl, nofun, nofun, H2.out, H3.out, fun _ => R1.out, nofun, fun _ => R2.out, nofun, HBT.out.drew⟩
      · rintro l a wx i o ⟨l0, l1, l2, l3, y20, y21, rfl, rfl, e0, e1, h2, h3, p1, p2, p3, p4, hb⟩ hf hd hi ho
        have hgg := HGG.out
        match i, hi with
        | 0, _ =>
          obtain rfl := Option.some.inj ho
          refine op_load_u8s Try.underlying29 i256s _ rfl (g + 2) X HD.out rfl h2 ?_
          exact ⟨true, l1, l2, l3, _, y21, rfl, rfl, fun _ => rfl, e1, h2, h3, p1, p2, p3, p4, hb⟩
        | 1, _ =>
          obtain rfl := Option.some.inj ho
          refine op_load_u8s Try.underlying29 i256s _ rfl (g + 3) Y HE.out rfl h3 ?_
          exact ⟨l0, true, l2, l3, y20, _, rfl, rfl, e0, fun _ => rfl, h2, h3, p1, p2, p3, p4, hb⟩
        | 2, _ =>
          obtain rfl := Option.some.inj ho
          obtain rfl : l0 = true := by simp [Region.binds] at hd; exact hd
          obtain rfl : l2 = false := by simpa using hf
          obtain rfl := e0 rfl
          refine op_store_u8s i256s _ _ rfl g X HD.out rfl rfl _ (by simp [u8s]) (p1 rfl) ?_
          intro w9 hb9 hbut9
          exact ⟨true, l1, true, l3, _, y21, rfl, rfl, e0, e1, h2.but hbut9 (show ¬ (g + 2 = g) by omega), h3.but hbut9 (show ¬ (g + 3 = g) by omega), nofun, fun _ => hb9, fun e => (p3 e).but hbut9 (show ¬ (g + 1 = g) by omega), fun e => (p4 e).but hbut9 (show ¬ (g + 1 = g) by omega), hb.then hbut9 (fun i hi e => by omega)⟩
        | 3, _ =>
          obtain rfl := Option.some.inj ho
          obtain rfl : l1 = true := by simp [Region.binds] at hd; exact hd.1
          obtain rfl : l3 = false := by simpa using hf
          obtain rfl := e1 rfl
          refine op_store_u8s i256s _ _ rfl (g + 1) Y HE.out rfl rfl _ (by simp [u8s]) (p3 rfl) ?_
          intro w9 hb9 hbut9
          exact ⟨l0, true, l2, true, y20, _, rfl, rfl, e0, e1, h2.but hbut9 (show ¬ (g + 2 = g + 1) by omega), h3.but hbut9 (show ¬ (g + 3 = g + 1) by omega), fun e => (p1 e).but hbut9 (show ¬ (g = g + 1) by omega), fun e => (p2 e).but hbut9 (show ¬ (g = g + 1) by omega), nofun, fun _ => hb9, hb.then hbut9 (fun i hi e => by omega)⟩
        | n + 4, h => exact absurd h (by simp)
      · rintro a wx ⟨l0, l1, l2, l3, y20, y21, hl, rfl, e0, e1, h2, h3, p1, p2, p3, p4, hb⟩
        obtain ⟨rfl, rfl, rfl, rfl⟩ : l0 = true ∧ l1 = true ∧ l2 = true ∧ l3 = true := by
          simpa [List.replicate, eq_comm] using hl
        have q2 := p2 rfl
        have q4 := p4 rfl
        clear h2 h3 p1 p2 p3 p4 e0 e1 hl
        go_wp2
        refine bodyPost_ret (results_cell_row2 rfl _ _ g (g + 1) _ _ _ _ _ _ rfl q2 Try.underlying29 rfl (by rw [i256s]; simp [u8s, HD.out]) rfl q4 Try.underlying29 rfl (by rw [i256s]; simp [u8s, HE.out])) rfl ⟨by rw [HX.out, HY.out], hb⟩
end Go.Proofs.Ythmjdebnjcopnaa
/- What the reference's New does to memory. -/
namespace Go.Proofs.Ythmjdebnjcopnaa
open Go.RowKit

/-- No key. -/
def zeroKey : List Value := .slice none 0 0 :: (u8s (List.replicate 256 0) ++ u8s (List.replicate 256 0))
theorem zeroKey_len : zeroKey.length = 513 := by
  unfold zeroKey u8s; rw [List.length_cons, List.length_append, List.length_map, List.length_replicate]
/-- What memory is amid New, the words W made. -/
structure NewI (w : World) (g gb : Nat) (vW : Value) (W : List (List B8)) (wr : World) : Prop where
  res : Blk wr g 31 zeroKey
  key : Blk wr (g + 1) 31 (keyV vW)
  box : Blk wr gb 29 (u8s (nts allBx))
  own : wr.ownsRow (gb + 2) 58 4 vW W.length (u8s (nts W.flatten))
  size : gb + 2 ≤ wr.heap.size
  but : But (fun _ => False) w wr
theorem key_cell {w : World} {bb off n cap : Nat} {key : List B8} (h : Bs w (.slice (some ⟨bb, off, none⟩) n cap) (nts key)) (i : Nat) (hi : i < key.length) : w.cell? ⟨bb, off + i, none⟩ = some (.int .u8 (b8 (at8 key i) : Nat)) := by
  obtain ⟨_, _, ⟨hnil, _⟩ | ⟨_, b2, o2, c2, he, _, _, hc⟩⟩ := h
  · have : key.length = 0 := by rw [← nts_len, hnil]; rfl
    omega
  · have e : (some (⟨bb, off, none⟩ : Addr) : Option Addr) = some ⟨b2, o2, none⟩ := by injection he
    injection e with e
    injection e with e1 e2
    subst e1 e2
    rw [hc i (by rw [nts_len]; exact hi)]
    have := nts_at key i hi
    simp [List.getD, this]
theorem key_lt {w : World} {bb off n cap : Nat} {key : List B8} (h : Bs w (.slice (some ⟨bb, off, none⟩) n cap) (nts key)) (h0 : 0 < key.length) : bb < w.heap.size := by
  obtain ⟨_, _, ⟨hnil, _⟩ | ⟨_, b2, o2, c2, he, _, hb, _⟩⟩ := h
  · have : key.length = 0 := by rw [← nts_len, hnil]; rfl
    omega
  · have e : (some (⟨bb, off, none⟩ : Addr) : Option Addr) = some ⟨b2, o2, none⟩ := by injection he
    injection e with e
    injection e with e1 e2
    rw [e1]; exact hb
/-- A slice into one cell of a block, as one operation. -/
theorem op_store_slice {T : TypeId} (hi : (Try.prog.info? T).map (·.size) = some 1) {w : World} {o : Oper} {a : Act} {K : Act → World → Prop} {Q : Exit → Act → World → Prop} (x y : Operand) (ho : o.op = .store T x y)
    (g off : Nat) (ao : Option Addr) (n c : Nat) (hx : a.eval x = .pointer (some ⟨g, off, none⟩)) (hy : a.eval y = .slice ao n c) (t : TypeId) (A B : List Value) (old : Value) (hb : Blk w g t (A ++ [old] ++ B)) (hA : A.length = off)
    (h : ∀ w', Blk w' g t (A ++ [.slice ao n c] ++ B) → But (· = g) w w' → K (a.put o.dst undef) w') : o.wp Try.prog a w K Q := by
  have hst := run_storeCells_at (P := Try.prog) g off t [Value.slice ao n c] 0 _ w hb (by simp; omega) (fun u hu => by rw [List.mem_singleton.1 hu]; rfl)
  have e : (A ++ [old] ++ B).toArray.toList.take (off + 0) ++ [Value.slice ao n c] ++ (A ++ [old] ++ B).toArray.toList.drop (off + 0 + [Value.slice ao n c].length) = A ++ [Value.slice ao n c] ++ B := by
    subst hA
    simp [List.drop_append]
  rw [e] at hst
  have hr : (storeVar T ⟨g, off, none⟩ (.slice ao n c)).run Try.prog w = .ok () (w.setRow g (A ++ [Value.slice ao n c] ++ B).toArray) := by
    cases hq : Try.prog.info? T with
    | none => simp [hq] at hi
    | some i =>
      have hs : i.size = 1 := by simp [hq] at hi; omega
      simp [storeVar, sizeOf, typeInfo, hq, Value.cells, hs] at hst ⊢
      exact hst
  unfold Oper.wp execOp
  simp only [ho, hx, hy, Instr.storeAt, Instr.sureAddr, Sem.run_bind, Sem.run_pure, Result.andThen_ok, hr]
  exact h _ (hb.row _) ((But.refl (· = g) w).setRow (fun _ => rfl) _)
/-- What memory is amid 'k.W = append(k.W, x)': ia the making of the row of x, ib append, ic the store. -/
structure AppC (ia ib ic : Nat) (w : World) (g gb : Nat) (vk vW : Value) (key : List B8) (W : List (List B8)) (x : List B8) (d : Nat → Bool) (f : Nat → Value) (wx : World) : Prop where
  res : Blk wx g 31 zeroKey
  box : Blk wx gb 29 (u8s (nts allBx))
  bytes : Bs wx vk (nts key)
  size : gb + 2 ≤ wx.heap.size
  but : But (fun _ => False) w wx
  key0 : d ic = false → Blk wx (g + 1) 31 (keyV vW)
  key1 : d ic = true → Blk wx (g + 1) 31 (keyV (f ib))
  own0 : d ib = false → wx.ownsRow (gb + 2) 58 4 vW W.length (u8s (nts W.flatten))
  own1 : d ib = true → wx.ownsRow (gb + 2) 58 4 (f ib) (W.length + 1) (u8s (nts W.flatten) ++ u8s (nts x))
  lit : d ia = true → d ib = false → ∃ h, f ia = .slice (some ⟨h, 0, none⟩) 1 1 ∧ ∀ j u, (u8s (nts x))[j]? = some u → wx.cell? ⟨h, j, none⟩ = some u
theorem AppC.keep {ia ib ic : Nat} {w : World} {g gb : Nat} {vk vW : Value} {key : List B8} {W : List (List B8)} {x : List B8} {d : Nat → Bool} {f : Nat → Value} {wx : World} (h : AppC ia ib ic w g gb vk vW key W x d f wx) (i : Nat) (v : Value) (ha : i ≠ ia) (hb : i ≠ ib) (hc : i ≠ ic) :
    AppC ia ib ic w g gb vk vW key W x (upd d i true) (upd f i v) wx := by
  have e1 := upd_other d true (Ne.symm ha)
  have e2 := upd_other d true (Ne.symm hb)
  have e3 := upd_other d true (Ne.symm hc)
  have e4 := upd_other f v (Ne.symm ha)
  have e5 := upd_other f v (Ne.symm hb)
  exact ⟨h.res, h.box, h.bytes, h.size, h.but, by rw [e3]; exact h.key0, by rw [e3, e5]; exact h.key1, by rw [e2]; exact h.own0, by rw [e2, e5]; exact h.own1, by rw [e1, e2, e4]; exact h.lit⟩
theorem addr_add (g k : Nat) : (⟨g, 0, none⟩ : Addr).add k = ⟨g, k, none⟩ := by
  by_cases e : k = 0
  · subst e; simp [Addr.add]
  · simp [Addr.add, e]
theorem add_cell {w : World} {h j : Nat} {u : Value} (hc : w.cell? ⟨h, j, none⟩ = some u) : w.cell? ((⟨h, 0, none⟩ : Addr).add j) = some u := by
  rw [addr_add]; exact hc
theorem info4 : (Try.prog.info? 58).map (fun i => (i.zero, i.size, i.bytes)) = some (some (.agg #[.int .u8 0, .int .u8 0, .int .u8 0, .int .u8 0]), 4, 4) := by kernel_rfl
theorem row4 (a b c d : Int) (w : World) : (Instr.buildSlice 28 1 #[(0, .agg #[.int .u8 a, .int .u8 b, .int .u8 c, .int .u8 d])]).run Try.prog w = .ok (.slice (some ⟨w.heap.size, 0, none⟩) 1 1) (w.alloc (.cells #[.int .u8 a, .int .u8 b, .int .u8 c, .int .u8 d] 58)) := by kernel_rfl
theorem flat_len {W : List (List B8)} (h : ∀ x ∈ W, x.length = 4) : W.flatten.length = 4 * W.length := by
  induction W with
  | nil => rfl
  | cons x W ih =>
    rw [List.flatten_cons, List.length_append, h x List.mem_cons_self, ih (fun y hy => h y (List.mem_cons_of_mem _ hy)), List.length_cons]; omega
theorem flat_at {W : List (List B8)} (h : ∀ x ∈ W, x.length = 4) (i j : Nat) (hi : i < W.length) (hj : j < 4) : at8 W.flatten (4 * i + j) = at8 (W.getD i []) j := by
  induction W generalizing i with
  | nil => simp at hi
  | cons x W ih =>
    have hx := h x List.mem_cons_self
    cases i with
    | zero =>
      rw [List.flatten_cons]
      unfold at8 List.getD
      rw [List.getElem?_append_left (by omega)]
      simp
    | succ i =>
      have := ih (fun y hy => h y (List.mem_cons_of_mem _ hy)) i (by simpa using hi)
      rw [List.flatten_cons]
      unfold at8 List.getD at this ⊢
      rw [List.getElem?_append_right (by omega), hx, show 4 * (i + 1) + j - 4 = 4 * i + j by omega, List.getElem?_cons_succ]
      exact this
theorem NewI.rows {w : World} {g gb : Nat} {vW : Value} {W : List (List B8)} {wr : World} (h : NewI w g gb vW W wr) (h4 : ∀ x ∈ W, x.length = 4) (h0 : 0 < W.length) :
    ∃ gr cap, vW = .slice (some ⟨gr, 0, none⟩) W.length cap ∧ gb + 2 ≤ gr ∧ gr < wr.heap.size ∧ ∀ i j, i < W.length → j < 4 → wr.cell? ⟨gr, 4 * i + j, none⟩ = some (.int .u8 (b8 (at8 (W.getD i []) j) : Nat)) := by
  have hown := h.own
  have hlt := hown.lt
  obtain ⟨_, ⟨_, hz⟩ | ⟨gr, cap, cur, rfl, _⟩⟩ := h.own
  · omega
  · refine ⟨gr, cap, rfl, (hlt gr rfl).1, (hlt gr rfl).2, fun i j hi hj => ?_⟩
    have hl := flat_len h4
    have hk : 4 * i + j < W.flatten.length := by omega
    have hc := hown.cells (g := gr) rfl (4 * i + j) (.int .u8 (b8 (at8 W.flatten (4 * i + j)) : Nat)) (by unfold u8s; rw [List.getElem?_map, nts_at _ _ hk]; rfl)
    rw [flat_at h4 i j hi hj] at hc
    rw [addr_add] at hc
    exact hc
theorem NewI.words {w : World} {g gb : Nat} {vW : Value} {W : List (List B8)} {wr : World} (h : NewI w g gb vW W wr) (h4 : ∀ x ∈ W, x.length = 4) (h0 : 0 < W.length) : Wr wr vW W := by
  obtain ⟨gr, cap, rfl, _, hg, hc⟩ := h.rows h4 h0
  exact ⟨gr, cap, rfl, hg, hc⟩
theorem NewI.then {w : World} {g gb : Nat} {vW : Value} {W : List (List B8)} {wr w' : World} (h : NewI w g gb vW W wr) (k : But (fun _ => False) wr w') : NewI w g gb vW W w' :=
  ⟨h.res.but k (fun h => h), h.key.but k (fun h => h), h.box.but k (fun h => h), h.own.kept (row := none) ⟨k.os, k.tape, k.output, k.size, fun j hj _ => k.block j hj (fun h => h)⟩ (by cases e : vW.ownBlock with
    | none => exact .inl rfl
    | some j => exact .inr (fun h => by cases h)), Nat.le_trans h.size k.size, h.but.trans k⟩
/-- Only a block beyond those of the key, its words and the boxes turns. -/
theorem NewI.put {w : World} {g gb gt : Nat} {vW : Value} {W : List (List B8)} {wr w' : World} (h : NewI w g gb vW W wr) (hg : g = w.heap.size) (h1 : g + 1 < gt) (h2 : gb < gt) (h3 : vW.ownBlock ≠ some gt) (k : But (· = gt) wr w') : NewI w g gb vW W w' :=
  ⟨h.res.but k (show ¬ (g = gt) by omega), h.key.but k (show ¬ (g + 1 = gt) by omega), h.box.but k (show ¬ (gb = gt) by omega), h.own.kept (row := some gt) ⟨k.os, k.tape, k.output, k.size, fun j hj hn => k.block j hj (fun e => hn (by rw [e]))⟩ (.inr h3), Nat.le_trans h.size k.size, h.but.then k (fun i hi e => by omega)⟩
theorem four_of {x : List B8} (h : x.length = 4) : x = [at8 x 0, at8 x 1, at8 x 2, at8 x 3] := by
  match x, h with
  | [a, b, c, d], _ => rfl
theorem word_cells {w : World} {gr i : Nat} {x : List B8} (hx : x.length = 4) (hc : ∀ j, j < 4 → w.cell? ⟨gr, 4 * i + j, none⟩ = some (.int .u8 (b8 (at8 x j) : Nat))) : ∀ j u, (u8s (nts x))[j]? = some u → w.cell? ((⟨gr, i * 4, none⟩ : Addr).add j) = some u := by
  intro j u hj
  rw [Nat.mul_comm i 4]
  have hlt : j < 4 := by
    rcases Nat.lt_or_ge j 4 with h | h
    · exact h
    · rw [List.getElem?_eq_none (by unfold u8s; rw [List.length_map, nts_len]; omega)] at hj; cases hj
  unfold u8s at hj
  rw [List.getElem?_map, nts_at x j (by omega)] at hj
  obtain rfl := Option.some.inj hj
  have := hc j hlt
  by_cases e : j = 0
  · subst e; simpa [Addr.add] using this
  · simpa [Addr.add, e] using this
theorem NewI.cell {w : World} {g gb gr I cp : Nat} {W : List (List B8)} {wr : World} (h : NewI w g gb (.slice (some ⟨gr, 0, none⟩) I cp) W wr) (h4 : ∀ x ∈ W, x.length = 4) (i j : Nat) (hi : i < W.length) (hj : j < 4) :
    wr.cell? ⟨gr, i * 4 + j, none⟩ = some (.int .u8 (b8 (at8 (W.getD i []) j) : Nat)) := by
  obtain ⟨gr', cp', he, _, _, hc⟩ := h.rows h4 (by omega)
  have e : (some (⟨gr, 0, none⟩ : Addr) : Option Addr) = some ⟨gr', 0, none⟩ := by injection he
  injection e with e
  injection e with e1
  subst e1
  rw [Nat.mul_comm i 4]
  exact hc i j hi hj
def mk4 (f : Nat → B8) : List B8 := [f 0, f 1, f 2, f 3]
theorem mk4_at (f : Nat → B8) (i : Nat) (h : i < 4) : at8 (mk4 f) i = f i := by
  match i, h with
  | 0, _ => rfl
  | 1, _ => rfl
  | 2, _ => rfl
  | 3, _ => rfl
theorem ext4 {a b : List B8} (ha : a.length = 4) (hb : b.length = 4) (h : ∀ i, i < 4 → at8 a i = at8 b i) : a = b := by
  rw [four_of ha, four_of hb, h 0 (by decide), h 1 (by decide), h 2 (by decide), h 3 (by decide)]
def partX (u t : List B8) (k : Nat) : List B8 := mk4 fun i => if i < k then at8 u i ^^^ at8 t i else 0
theorem partX_len (u t : List B8) (k : Nat) : (partX u t k).length = 4 := rfl
theorem partX_all (u t : List B8) : partX u t 4 = xor4 u t := rfl
theorem partX_set (u t : List B8) (k : Nat) (h : k < 4) : (partX u t k).set k (at8 u k ^^^ at8 t k) = partX u t (k + 1) := by
  refine ext4 (by rw [List.length_set]; rfl) rfl (fun i hi => ?_)
  rw [at8_set _ _ _ _ (by rw [partX_len]; exact h)]
  unfold partX
  rw [mk4_at _ i hi, mk4_at _ i hi]
  by_cases h2 : i = k
  · subst h2; rw [if_pos rfl, if_pos (Nat.lt_succ_self _)]
  · rw [if_neg h2]
    by_cases h3 : i < k
    · rw [if_pos h3, if_pos (by omega)]
    · rw [if_neg h3, if_neg (by omega)]
/-- Between append and the store. -/
structure MidI (w : World) (g gb : Nat) (v v' : Value) (W : List (List B8)) (x : List B8) (wr : World) : Prop where
  res : Blk wr g 31 zeroKey
  key : Blk wr (g + 1) 31 (keyV v)
  box : Blk wr gb 29 (u8s (nts allBx))
  own : wr.ownsRow (gb + 2) 58 4 v' (W.length + 1) (u8s (nts W.flatten) ++ u8s (nts x))
  size : gb + 2 ≤ wr.heap.size
  but : But (fun _ => False) w wr
theorem NewI.mid {w : World} {g gb : Nat} {v v' : Value} {W : List (List B8)} {x : List B8} {wr w' : World} (h : NewI w g gb v W wr) (hg : g = w.heap.size) (hgb : g + 1 < gb) (k : wr.grownBy w' v.ownBlock) (ho : w'.ownsRow (gb + 2) 58 4 v' (W.length + 1) (u8s (nts W.flatten) ++ u8s (nts x))) : MidI w g gb v v' W x w' := by
  have hlt := h.own.lt
  have hk : But (fun j => v.ownBlock = some j) wr w' := ⟨k.os, k.tape, k.output, k.size, fun j hj hn => k.block j hj (fun e => hn e.symm)⟩
  have n0 : ∀ j, j < gb + 2 → ¬ (v.ownBlock = some j) := fun j hj e => by have := (hlt j e).1; omega
  exact ⟨h.res.but hk (n0 g (by omega)), h.key.but hk (n0 (g + 1) (by omega)), h.box.but hk (n0 gb (by omega)), ho, Nat.le_trans h.size k.size, h.but.then hk (fun j hj e => absurd e (n0 j (by omega)))⟩
theorem MidI.store {w : World} {g gb : Nat} {v v' : Value} {W : List (List B8)} {x : List B8} {wr : World} (h : MidI w g gb v v' W x wr) (hg : g = w.heap.size) (hgb : g + 1 < gb) : NewI w g gb v' (W ++ [x]) (wr.setCell ⟨g + 1, 0, none⟩ v') := by
  have hlt := h.own.lt
  have k : But (· = g + 1) wr (wr.setCell ⟨g + 1, 0, none⟩ v') := (But.refl (· = g + 1) wr).setCell (p := ⟨g + 1, 0, none⟩) (fun _ => rfl) _
  refine ⟨h.res.but k (show ¬ (g = g + 1) by omega), h.key.set 0 v', h.box.but k (show ¬ (gb = g + 1) by omega), ?_, Nat.le_trans h.size k.size, h.but.then k (fun j hj e => by omega)⟩
  have ho := h.own.kept (row := some (g + 1)) ⟨k.os, k.tape, k.output, k.size, fun j hj hn => k.block j hj (fun e => hn (by rw [e]))⟩ (.inr (fun e => by have := (hlt _ e).1; omega))
  rw [List.length_append, List.flatten_append]
  simpa [nts, u8s] using ho
theorem results_row_tmp {P : Program} {fn : Func} {p u : Tmp} {ty : TypeId} (h : fn.results = #[.cell p ty, .tmp u]) (tmps : Array Value) (w : World) (g : Nat) (t : TypeId) (cs : Array Value) (d : TypeDesc) (v : Value)
    (hp : tmps.getD p undef = .pointer (some ⟨g, 0, none⟩)) (hg : w.heap[g]? = some (.cells cs t (0, 0))) (hu : P.underlying ty = some d) (hd : (match d with | .struct _ | .array _ _ => true | _ => false) = true) (hi : (P.info? ty).map (·.size) = some cs.size) (hv : tmps.getD u undef = v) :
    (results fn tmps).run P w = .ok (.tuple #[.agg cs, v]) w := by
  have hp' : tmps[p]?.getD undef = .pointer (some ⟨g, 0, none⟩) := by simpa using hp
  have hv' : tmps[u]?.getD undef = v := by simpa using hv
  simp [results, h, hp', hv', asAddr, run_loadVar_row w g t ty cs (0, 0) d hg hu hd hi]
end Go.Proofs.Ythmjdebnjcopnaa
/- The reference's New of what is no key. -/
namespace Go.Proofs.Ythmjdebnjcopnaa
open Go.RowKit

theorem wpList_load_zeroKey {w : World} {ops : Array Oper} {rest : List Oper} {o : Oper} {a : Act} {Q : Exit → Act → World → Prop} (h1 : o.guard = none) (x : Operand) (h2 : o.op = .load 31 x) (g : Nat) (h3 : a.eval x = .pointer (some ⟨g, 0, none⟩)) (h4 : Blk w g 31 zeroKey)
    (h5 : wpList Try.prog ops Q rest (a.put o.dst (.agg zeroKey.toArray)) w) : wpList Try.prog ops Q (o :: rest) a w :=
  wpList_load_row h1 31 x h2 g h3 31 _ (0, 0) _ h4 Try.underlying31 rfl (by rw [iKey, List.size_toArray, zeroKey_len]) h5
theorem zeroKey_one : ∀ u ∈ zeroKey, u.oneCell' = true := by
  intro u hu
  unfold zeroKey at hu
  rcases List.mem_cons.1 hu with rfl | hu
  · rfl
  · rcases List.mem_append.1 hu with hu | hu <;> exact u8s_one _ u hu
set_option maxRecDepth 100000 in
set_option maxHeartbeats 1000000 in
theorem rnew_none {w : World} {v : Value} {key : List Nat} (hv : Bs w v key) (h16 : key.length ≠ 16) (h32 : key.length ≠ 32) :
    Calls Try.prog 10 #[v] w fun e w' => e = .returned (.tuple #[.agg zeroKey.toArray, .bool false]) ∧ But (fun _ => False) w w' := by
  have hz : ∀ w : World, (zeroValue 31).run Try.prog w = .ok (.agg zeroKey.toArray) w := fun _ => by kernel_rfl
  obtain ⟨Z, hZ⟩ : ∃ Z, Z = zeroKey.toArray := ⟨_, rfl⟩
  rw [← hZ] at hz
  obtain ⟨ao, cap, rfl, -, -⟩ := Bs.gen hv
  obtain ⟨n, hn⟩ : ∃ n, n = key.length := ⟨_, rfl⟩
  rw [← hn] at h16 h32 ⊢
  have e1 : ((n : Int) != 16) = true := by simp; omega
  have e2 : ((n : Int) != 32) = true := by simp; omega
  obtain ⟨g, hg⟩ : ∃ g, g = w.heap.size := ⟨_, rfl⟩
  have HR0 : Hid (Blk ((w.alloc (.cells Z 31)).alloc (.cells Z 31)) w.heap.size 31 zeroKey) := by
    rw [hZ]; exact (Blk.new rfl).but ((But.refl (fun _ => False) _).alloc _) (fun h => h)
  have HK0 : Hid (Blk ((w.alloc (.cells Z 31)).alloc (.cells Z 31)) (w.heap.size + 1) 31 zeroKey) := by
    rw [hZ]; exact Blk.new (by simp)
  have HBT : Hid (But (fun _ => False) w ((w.alloc (.cells Z 31)).alloc (.cells Z 31))) := ((But.refl _ w).alloc _).alloc _
  clear hv hn h16 h32 hZ hg
  go_enter Try.func10, Try.ntmps10
  go_wp2_with (first
    | (refine wpList_load_zeroKey rfl _ rfl (w.heap.size + 1) rfl HK0.out ?_)
    | (refine wpList_store_at rfl _ _ _ rfl w.heap.size 0 zeroKey rfl rfl 31 [] zeroKey [] (by rw [List.append_nil]; exact HR0.out) rfl rfl (by rw [iKey, zeroKey_len]) zeroKey_one ?_; intro w9 hb9 hbut9)
    | fail)
  have hb9' : Blk w9 w.heap.size 31 zeroKey := by
    have h := hb9
    rw [List.append_nil, List.nil_append] at h
    exact h
  refine bodyPost_ret (results_row_tmp rfl _ _ w.heap.size _ _ _ (.bool false) rfl hb9' Try.underlying31 rfl (by rw [iKey, List.size_toArray, zeroKey_len]) rfl) rfl ⟨rfl, ?_⟩
  exact HBT.out.then hbut9 (fun i hi e => by omega)
end Go.Proofs.Ythmjdebnjcopnaa
