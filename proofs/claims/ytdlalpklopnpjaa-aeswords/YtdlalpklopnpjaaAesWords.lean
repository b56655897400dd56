/- The program's wordsOf: the words of a key. -/
import Derived.Test.YtdlalpklopnpjaaAesGrown
import Derived.Test.YtdlalpklopnpjaaAesKeyed
import Derived.Test.YtdlalpklopnpjaaClasses
import Derived.Test.YtdlalpklopnpjaaRowNum
import Derived.Laws.MakeOwn
namespace Go.Proofs.Ytdlalpklopnpjaa
open Go.RowKit

/-- These words, then words 0. -/
def fillW (L : List (List B8)) (N : Nat) : List Value := L.map wv ++ List.replicate (N - L.length) (.int .u32 0)
theorem fillW_set (L : List (List B8)) (N : Nat) (x : List B8) (h : L.length < N) : (fillW L N).set L.length (wv x) = fillW (L ++ [x]) N := by
  unfold fillW
  obtain ⟨k, hk⟩ : ∃ k, N - L.length = k + 1 := ⟨N - L.length - 1, by omega⟩
  have h1 : L.length = (L.map wv).length := by simp
  rw [hk, List.replicate_succ, List.length_append, List.length_singleton, show N - (L.length + 1) = k by omega, List.map_append, List.append_assoc]
  rw [h1, List.set_append_right _ _ (Nat.le_refl _)]
  simp
theorem fillW_at (L : List (List B8)) (N i : Nat) (h : i < L.length) : (fillW L N)[i]? = some (wv (L.getD i [])) := by
  unfold fillW
  rw [List.getElem?_append_left (by simpa using h), List.getElem?_map]
  simp [List.getD, h]
theorem fillW_next (L : List (List B8)) (N : Nat) (h : L.length < N) : (fillW L N)[L.length]? = some (.int .u32 0) := by
  unfold fillW
  obtain ⟨k, hk⟩ : ∃ k, N - L.length = k + 1 := ⟨N - L.length - 1, by omega⟩
  rw [List.getElem?_append_right (by simp), hk]
  simp
theorem fillW_zero (N : Nat) : fillW [] N = List.replicate N (.int .u32 0) := by simp [fillW]
theorem fillW_all (L : List (List B8)) (N : Nat) (h : L.length = N) : fillW L N = L.map wv := by simp [fillW, h]
theorem val4 (a b c d : B8) : val (nts [a, b, c, d]) = num4 a b c d := by
  show 256 * (256 * (256 * (256 * 0 + b8 a) + b8 b) + b8 c) + b8 d = num4 a b c d
  unfold num4; omega
theorem key_word (key : List B8) (i : Nat) (h : 4 * i + 4 ≤ key.length) : ((nts key).drop (4 * i)).take 4 = nts (wordOf key i) := by
  apply List.ext_getElem?
  intro j
  rw [List.getElem?_take]
  by_cases hj : j < 4
  · rw [if_pos hj, List.getElem?_drop, nts_at key (4 * i + j) (by omega)]
    match j, hj with
    | 0, _ => rfl
    | 1, _ => rfl
    | 2, _ => rfl
    | 3, _ => rfl
  · rw [if_neg hj, List.getElem?_eq_none (by rw [nts_len]; show 4 ≤ j; omega)]
theorem made44 : madeCells (Value.cells (.int .u32 0)) 44 = (List.replicate 44 (Value.int .u32 0)).toArray := by kernel_rfl
theorem made60 : madeCells (Value.cells (.int .u32 0)) 60 = (List.replicate 60 (Value.int .u32 0)).toArray := by kernel_rfl
theorem make_words (w : World) (N : Nat) (h : N = 44 ∨ N = 60) : Sem.run Try.prog (Instr.makeSlice 39 (.int .i64 (N : Int)) (.int .i64 (N : Int))) w = .ok (.slice (some ⟨w.heap.size, 0, none⟩) N N) (w.alloc (.cells (List.replicate N (Value.int .u32 0)).toArray 42)) := by
  have hi : ∃ i, Try.prog.info? 42 = some i ∧ i.zero = some (.int .u32 0) ∧ i.size = 1 ∧ i.bytes = 4 := ⟨_, rfl, rfl, rfl, rfl⟩
  obtain ⟨i, hi, hz, hs, hby⟩ := hi
  have h1 := run_makeSlice (P := Try.prog) (w := w) 39 42 i (.int .u32 0) Try.underlying39 hi hz .i64 .i64 (N : Int) (N : Int) (by omega) (Int.le_refl _) (by rw [hs]; omega) (by rw [hby]; omega) (by omega)
  have e : madeCells (Value.cells (.int .u32 0)) ((N : Int).toNat * i.size) = (List.replicate N (Value.int .u32 0)).toArray := by
    rw [hs]
    rcases h with h | h <;> subst h
    · exact made44
    · exact made60
  rw [e] at h1
  exact h1
theorem turned_len (n i : Nat) {t : List B8} (h : t.length = 4) : (turned n i t).length = 4 := by
  unfold turned
  split
  · rfl
  · split
    · rfl
    · exact h
theorem getD_four {L : List (List B8)} (h : ∀ x ∈ L, x.length = 4) (i : Nat) (hi : i < L.length) : (L.getD i []).length = 4 := by
  refine h _ ?_
  rw [List.getD_eq_getElem?_getD, List.getElem?_eq_getElem hi]
  exact List.getElem_mem hi
theorem columnOf_word {t : List B8} (h : t.length = 4) (w : World) :
    Calls Try.prog 43 #[wv t] w fun e w' => e = .returned (.agg (u8s (nts t)).toArray) ∧ But (fun _ => False) w w' := by
  have h1 := columnOf_any (at8 t 0) (at8 t 1) (at8 t 2) (at8 t 3) w
  unfold colV at h1
  rw [four_eta h] at h1
  exact h1
theorem number_word {t : List B8} (h : t.length = 4) (w : World) :
    Calls Try.prog 44 #[.agg (u8s (nts t)).toArray] w fun e w' => e = .returned (wv t) ∧ But (fun _ => False) w w' := by
  have h1 := number_any (at8 t 0) (at8 t 1) (at8 t 2) (at8 t 3) w
  unfold colV at h1
  rw [four_eta h] at h1
  exact h1
theorem xor_wv (a b : List B8) (w : World) : Sem.run Try.prog (binOp .xor 42 (wv a) (wv b)) w = .ok (wv (xor4 a b)) w := by
  have h := xor4n (at8 a 0) (at8 a 1) (at8 a 2) (at8 a 3) (at8 b 0) (at8 b 1) (at8 b 2) (at8 b 3)
  have l1 := num4_lt (at8 a 0) (at8 a 1) (at8 a 2) (at8 a 3)
  have l2 := num4_lt (at8 b 0) (at8 b 1) (at8 b 2) (at8 b 3)
  have e : wv (xor4 a b) = .int .u32 ((num4 (at8 a 0 ^^^ at8 b 0) (at8 a 1 ^^^ at8 b 1) (at8 a 2 ^^^ at8 b 2) (at8 a 3 ^^^ at8 b 3) : Nat) : Int) := rfl
  rw [e, ← h]
  unfold wv
  generalize num4 (at8 a 0) (at8 a 1) (at8 a 2) (at8 a 3) = p
  generalize num4 (at8 b 0) (at8 b 1) (at8 b 2) (at8 b 3) = q
  rfl
/-- What memory is amid wordsOf: words L, then words 0, and a reader of what is left of the key. -/
structure WrdI (w : World) (g r : Nat) (og : Option Nat) (L : List (List B8)) (N : Nat) (rest : List Nat) (wr : World) : Prop where
  wds : Blk wr g 42 (fillW L N)
  rd : Rd wr r og rest 0
  but : But (fun _ => False) w wr
set_option maxRecDepth 100000 in
set_option maxHeartbeats 2000000 in
theorem wordsOf_any {w : World} {v : Value} {key : List B8} {gb : Nat} (hv : Bs w v (nts key)) (hb : Bxs w gb) (hk : key.length = 16 ∨ key.length = 32) :
    Calls Try.prog 20 #[v, .pointer (some ⟨gb, 0, none⟩)] w fun e w' => ∃ gw T, e = .returned (.slice (some ⟨gw, 0, none⟩) (words key).length (words key).length) ∧ Blk w' gw T ((words key).map wv) ∧ w.heap.size ≤ gw ∧ But (fun _ => False) w w' := by
  have HV := Hid.mk' hv
  have HB := Hid.mk' hb
  have HK := Hid.mk' hk
  obtain ⟨ao, cap, rfl, hnone, -⟩ := hv.gen
  rw [nts_len]
  obtain ⟨kl, hkl⟩ : ∃ kl, kl = key.length := ⟨_, rfl⟩
  obtain ⟨n, hn⟩ : ∃ n, n = kl / 4 := ⟨_, rfl⟩
  obtain ⟨N, hN⟩ : ∃ N, N = 4 * (n + 7) := ⟨_, rfl⟩
  have HNW : Hid ((words key).length = N) := by show _ = _; rw [words_len, ← hkl, ← hn]; omega
  have HKL := Hid.mk' hkl
  have HN := Hid.mk' hn
  have HNN := Hid.mk' hN
  rw [HNW.out, ← hkl]
  have d1 : Int.tdiv (kl : Int) 4 = (n : Int) := by rw [Int.tdiv_eq_ediv_of_nonneg (by omega)]; omega
  have d2 : (kl : Int) / 4 = (n : Int) := by omega
  have hn8 : n = 4 ∨ n = 8 := by omega
  have hn8' : n ≤ 8 := by omega
  have hN60 : N ≤ 60 := by omega
  have w1 : 4 * ((n : Int) + 6 + 1) = (N : Int) := by omega
  have HN8 := Hid.mk' hn8
  clear hv hb hk hnone hkl hn hN hn8
  go_enter Try.func20, Try.ntmps20
  have hmk := make_words w N (by have := HN8.out; have := HNN.out; omega)
  obtain ⟨A, hA⟩ : ∃ A, A = (List.replicate N (Value.int .u32 0)).toArray := ⟨_, rfl⟩
  rw [← hA] at hmk
  have HA := Hid.mk' hA
  clear hA
  go_wp2_with fail
  obtain ⟨g, hg⟩ : ∃ g, g = w.heap.size := ⟨_, rfl⟩
  rw [← hg]
  obtain ⟨W0, hW0⟩ : ∃ W0, W0 = w.alloc (.cells A 42) := ⟨_, rfl⟩
  rw [← hW0]
  have hB0 : Blk W0 g 42 (fillW [] N) := by rw [hW0, HA.out, fillW_zero]; exact Blk.new hg.symm
  have hT0 : But (fun _ => False) w W0 := by rw [hW0]; exact (But.refl _ w).alloc _
  have HB0 := Hid.mk' hB0
  have HT0 := Hid.mk' hT0
  have HG := Hid.mk' hg
  have HRN := Hid.mk' (reader_any (HV.out.but hT0 (fun _ _ _ h => h)) (by rw [nts_len, ← HKL.out]; omega))
  rw [nts_len, ← HKL.out] at HRN
  clear hB0 hT0 hg hW0 hmk
  refine Calls.mono HRN.out ?_
  rintro e w2 ⟨r, og, rfl, hr, hog, hrd, hbel⟩
  have HI0 : Hid (WrdI w g r og [] N (nts key) w2) := ⟨HB0.out.but (But.of (R := fun _ => False) hbel) (fun h => h), hrd, HT0.out.trans (But.of hbel)⟩
  have HGR : Hid (g < r ∧ ∀ j, og = some j → g < j) := ⟨by have := HB0.out.lt; omega, fun j hj => by have := HB0.out.lt; have := hog j hj; omega⟩
  clear hr hog hrd hbel HRN
  go_wp2
  go_loopw [21] (fun i wr => ∃ k : Nat, k ≤ n ∧ i = .int .i64 k ∧ WrdI w g r og ((List.range k).map (wordOf key)) N ((nts key).drop (4 * k)) wr) (fun i _ => n - (intOf i).toNat)
  case atStart => exact ⟨0, by omega, rfl, HI0.out⟩
  case round =>
    obtain ⟨k, hkn, rfl, hI⟩ := hrel
    have HI := Hid.mk' hI
    clear hI HI0 HB0 HT0
    by_cases hlt : k < n
    · have hki : (k : Int) < (n : Int) := by omega
      obtain ⟨L, hL⟩ : ∃ L, L = (List.range k).map (wordOf key) := ⟨_, rfl⟩
      have HLL : Hid (L.length = k) := by show _ = _; rw [hL]; simp
      rw [← hL] at HI
      have HLE := Hid.mk' hL
      clear hL
      have HKB : Hid (4 * k + 4 ≤ key.length) := by show _ ≤ _; rw [← HKL.out]; have := HN.out; have := HK.out; have := HKL.out; omega
      have HNU := Hid.mk' (num_ok HI.out.rd 4 (by decide) (by decide) (by rw [List.length_drop, nts_len]; have := HKB.out; omega))
      rw [key_word key k HKB.out, List.drop_drop] at HNU
      go_wp2_with fail
      refine Calls.mono HNU.out ?_
      rintro e w3 ⟨rfl, hrd, hbut⟩
      have hk2 : 4 * k + 4 = 4 * (k + 1) := by omega
      rw [hk2] at hrd
      have HRD := Hid.mk' hrd
      have HB3 := Hid.mk' (HI.out.wds.but hbut (show ¬ (g = r) by have := HGR.out.1; omega))
      have HT3 := Hid.mk' (HI.out.but.then hbut (fun i hi e => by have := HGR.out.1; have := HG.out; omega))
      obtain ⟨X, hX⟩ : ∃ X, X = val (nts (wordOf key k)) := ⟨_, rfl⟩
      rw [← hX]
      have HX : Hid (Value.int .u32 (X : Int) = wv (wordOf key k)) := by show _ = _; rw [hX]; unfold wv; exact congrArg (fun x : Nat => Value.int .u32 (x : Int)) (val4 _ _ _ _)
      have hX32 : X < 4294967296 := by rw [hX]; show val (nts [_, _, _, _]) < _; rw [val4]; exact num4_lt _ _ _ _
      have c1 : w3.cell? ⟨g, k, none⟩ = some (.int .u32 0) := by
        rw [HB3.out.cell, ← HLL.out]; exact fillW_next L N (by rw [HLL.out]; have := HNN.out; omega)
      have f1 := HB3.out.free k
      have hNk : (k : Int) < (N : Int) := by have := HNN.out; omega
      clear hrd hbut HNU hX hk2
      go_wp2
      refine ⟨⟨k + 1, by omega, by go_num, ?_⟩, by simp [intOf]; omega⟩
      have hs : But (· = g) w3 (w3.setCell ⟨g, k, none⟩ (.int .u32 (X : Int))) := (But.refl (· = g) w3).setCell (p := ⟨g, k, none⟩) (fun _ => rfl) _
      refine ⟨?_, HRD.out.but hs (show ¬ (r = g) by have := HGR.out.1; omega) (fun j hj => show ¬ (j = g) by have := HGR.out.2 j hj; omega), HT3.out.then hs (fun i hi e => by have := HG.out; omega)⟩
      rw [List.range_succ, List.map_append, ← HLE.out]
      show Blk _ _ _ (fillW (L ++ [wordOf key k]) N)
      rw [← fillW_set L N _ (by rw [HLL.out]; have := HNN.out; omega), HLL.out, ← HX.out]
      exact HB3.out.set k _
    · have hkn2 : k = n := by omega
      subst hkn2
      have HI2 : Hid (Blk wr g 42 (fillW (kws key k 0) N) ∧ But (fun _ => False) w wr) := ⟨HI.out.wds, HI.out.but⟩
      clear HI
      go_wp2
      go_loopw [9] (fun i wr => ∃ m : Nat, k + m ≤ N ∧ i = .int .i64 (k + m : Nat) ∧ Blk wr g 42 (fillW (kws key k m) N) ∧ But (fun _ => False) w wr) (fun i _ => N - (intOf i).toNat)
      case atStart => exact ⟨0, by have := HNN.out; omega, rfl, HI2.out⟩
      case round =>
        obtain ⟨m, hm, rfl, hI⟩ := hrel
        obtain ⟨L, hL⟩ : ∃ L, L = kws key k m := ⟨_, rfl⟩
        obtain ⟨p, hp⟩ : ∃ p, p = k + m := ⟨_, rfl⟩
        rw [← hL] at hI
        rw [← hp] at hm ⊢
        have HLL : Hid (L.length = p) := by show _ = _; rw [hL, kws_len, hp]
        have HL4 : Hid (∀ x ∈ L, x.length = 4) := by show ∀ x ∈ L, x.length = 4; rw [hL]; exact kws_four _ _ _
        have HLE := Hid.mk' hL
        have HP := Hid.mk' hp
        have HI := Hid.mk' hI
        have hp4 : 4 ≤ p := by have := HN8.out; omega
        clear hL hI HI2 hp
        by_cases hlt2 : p < N
        · have hpi : (p : Int) < (N : Int) := by omega
          obtain ⟨X, hX⟩ : ∃ X, X = L.getD m [] := ⟨_, rfl⟩
          obtain ⟨Y, hY⟩ : ∃ Y, Y = L.getD (p - 1) [] := ⟨_, rfl⟩
          have HX := Hid.mk' hX
          have HY := Hid.mk' hY
          have HY4 : Hid (Y.length = 4) := by show _ = _; rw [hY]; exact getD_four HL4.out _ (by rw [HLL.out]; omega)
          obtain ⟨T, hT⟩ : ∃ T, T = turned k p Y := ⟨_, rfl⟩
          have HT4 : Hid (T.length = 4) := by show _ = _; rw [hT]; exact turned_len _ _ HY4.out
          have HTE := Hid.mk' hT
          clear hX hY hT
          have w1' : IntKind.i64.wrap ((p : Int) - (k : Int)) = (m : Int) := by have := HP.out; rw [wrapI _ (by omega) (by omega)]; omega
          have w2' : IntKind.i64.wrap ((p : Int) - 1) = ((p - 1 : Nat) : Int) := by rw [wrapI _ (by omega) (by omega)]; omega
          obtain ⟨u, hu⟩ : ∃ u, u = p - 1 := ⟨_, rfl⟩
          rw [← hu] at w2' HY
          have HU := Hid.mk' hu
          have hui : (u : Int) < (N : Int) := by omega
          have hmi : (m : Int) < (N : Int) := by have := HP.out; omega
          have HC1 : Hid (∀ w', But (fun _ => False) wr w' → w'.cell? ⟨g, m, none⟩ = some (wv X)) := by
            intro w' hw'
            rw [(HI.out.1.but hw' (fun h => h)).cell, HX.out]; exact fillW_at L N m (by rw [HLL.out]; have := HP.out; have := HN8.out; omega)
          have HC2 : Hid (∀ w', But (fun _ => False) wr w' → w'.cell? ⟨g, u, none⟩ = some (wv Y)) := by
            intro w' hw'
            rw [(HI.out.1.but hw' (fun h => h)).cell, HY.out]; exact fillW_at L N u (by rw [HLL.out, HU.out]; omega)
          have HBX : Hid (∀ w', But (fun _ => False) wr w' → Bxs w' gb) := fun w' hw' => HB.out.but (HI.out.2.trans hw') (fun h => h)
          clear hu
          go_upto_region 12 with fail
          refine region_class (l := [_, _, _, _, _, _, _, _, _, _, _, _, _, _, _, _, _, _, _, _, _]) (o := _) (fun w' => But (fun _ => False) wr w') (by kernel_rfl) (by kernel_rfl) (by kernel_rfl) rfl (by kernel_rfl) (by kernel_rfl) ((But.refl _ wr).drew) ?_
          refine class_val _ rfl (fun w' _ => rfl) ?_
          intro K hK; go_simp; refine hK _ ?_; clear hK K
          refine class_val _ rfl (fun w' _ => rfl) ?_
          intro K hK; go_simp; refine hK _ ?_; clear hK K
          refine class_val _ rfl (fun w' _ => rfl) ?_
          intro K hK; go_simp; refine hK _ ?_; clear hK K
          refine class_val _ rfl (fun w' _ => rfl) ?_
          intro K hK; go_simp; refine hK _ ?_; clear hK K
          refine class_val _ rfl (fun w' _ => rfl) ?_
          intro K hK; go_simp; refine hK _ ?_; clear hK K
          refine class_val (.int .i64 (m : Int)) rfl (fun w' _ => by go_simp) ?_
          intro K hK; go_simp; refine hK _ ?_; clear hK K
          refine class_val (.pointer (some ⟨g, m, none⟩)) rfl (fun w' _ => by go_simp) ?_
          intro K hK; go_simp; refine hK _ ?_; clear hK K
          refine class_val (wv X) rfl (fun w' hw' => by have c0 := HC1.out w' hw'; go_simp) ?_
          intro K hK; go_simp; refine hK _ ?_; clear hK K
          refine class_val _ rfl (fun w' _ => rfl) ?_
          intro K hK; go_simp; refine hK _ ?_; clear hK K
          refine class_val _ rfl (fun w' _ => rfl) ?_
          intro K hK; go_simp; refine hK _ ?_; clear hK K
          refine class_val (.int .i64 (u : Int)) rfl (fun w' _ => by go_simp) ?_
          intro K hK; go_simp; refine hK _ ?_; clear hK K
          refine class_val (.pointer (some ⟨g, u, none⟩)) rfl (fun w' _ => by go_simp) ?_
          intro K hK; go_simp; refine hK _ ?_; clear hK K
          refine class_val (wv Y) rfl (fun w' hw' => by have c0 := HC2.out w' hw'; go_simp) ?_
          intro K hK; go_simp; refine hK _ ?_; clear hK K
          refine class_call (.agg (u8s (nts Y)).toArray) 43 #[wv Y] rfl (fun w' _ => by kernel_rfl) (fun w' hw' => (columnOf_word HY4.out w').mono (fun e w'' h => ⟨h.1, hw'.trans h.2⟩)) ?_
          intro K hK; go_simp; refine hK _ ?_; clear hK K
          refine class_val _ rfl (fun w' _ => rfl) ?_
          intro K hK; go_simp; refine hK _ ?_; clear hK K
          refine class_val _ rfl (fun w' _ => rfl) ?_
          intro K hK; go_simp; refine hK _ ?_; clear hK K
          refine class_val _ rfl (fun w' _ => rfl) ?_
          intro K hK; go_simp; refine hK _ ?_; clear hK K
          refine class_call (.agg (u8s (nts T)).toArray) 42 #[.agg (u8s (nts Y)).toArray, .int .i64 (p : Int), .int .i64 (k : Int), .pointer (some ⟨gb, 0, none⟩)] rfl (fun w' _ => by kernel_rfl) (fun w' hw' => (grown_any (HBX.out w' hw') HY4.out HN8.out (by have := HP.out; omega) (by omega)).mono (fun e w'' h => ⟨by rw [h.1, HTE.out], hw'.trans h.2⟩)) ?_
          intro K hK; go_simp; refine hK _ ?_; clear hK K
          refine class_call (wv T) 44 #[.agg (u8s (nts T)).toArray] rfl (fun w' _ => by kernel_rfl) (fun w' hw' => (number_word HT4.out w').mono (fun e w'' h => ⟨h.1, hw'.trans h.2⟩)) ?_
          intro K hK; go_simp; refine hK _ ?_; clear hK K
          refine class_val (wv (xor4 X T)) rfl (fun w' _ => by have hx := xor_wv X T w'; go_simp) ?_
          intro K hK; go_simp; refine hK _ ?_; clear hK K
          refine class_val (.pointer (some ⟨g, p, none⟩)) rfl (fun w' _ => by go_simp) ?_
          intro K hK; go_simp; refine hK _ ?_; clear hK K
          refine wpQuiet_nil ?_
          intro w5 hw5
          have HB5 := Hid.mk' (HI.out.1.but hw5 (fun h => h))
          have c1 : w5.cell? ⟨g, p, none⟩ = some (.int .u32 0) := by
            rw [HB5.out.cell, ← HLL.out]; exact fillW_next L N (by rw [HLL.out]; exact hlt2)
          have f1 := HB5.out.free p
          obtain ⟨z, hz⟩ : ∃ z : Nat, wv (xor4 X T) = .int .u32 (z : Int) := ⟨_, rfl⟩
          have HZ := Hid.mk' hz
          rw [hz]
          generalize wv X = VX
          generalize wv Y = VY
          generalize wv T = VT
          generalize (u8s (nts Y)).toArray = AY
          generalize (u8s (nts T)).toArray = AT
          clear hz HC1 HC2 HBX
          go_wp2
          refine ⟨⟨m + 1, by have := HP.out; omega, by have := HP.out; go_num, ?_⟩, by simp [intOf]; omega⟩
          have hs : But (· = g) w5 (w5.setCell ⟨g, p, none⟩ (.int .u32 (z : Int))) := (But.refl (· = g) w5).setCell (p := ⟨g, p, none⟩) (fun _ => rfl) _
          refine ⟨?_, (HI.out.2.trans hw5).then hs (fun i hi e => by have := HG.out; omega)⟩
          have e : kws key k (m + 1) = L ++ [xor4 X T] := by
            show kws key k m ++ [xor4 ((kws key k m).getD (k + m - k) []) (turned k (k + m) ((kws key k m).getD (k + m - 1) []))] = _
            rw [← HLE.out, ← HP.out, show p - k = m by have := HP.out; omega, ← HX.out, ← HU.out, ← HY.out, ← HTE.out]
          rw [e, ← fillW_set L N _ (by rw [HLL.out]; exact hlt2), HLL.out, HZ.out]
          exact HB5.out.set p _
        · have hpN : p = N := by omega
          subst hpN
          go_wp2
          go_ret
          refine ⟨g, 42, rfl, ?_, by have := HG.out; omega, HI.out.2⟩
          have e : words key = L := by
            rw [HLE.out]
            unfold words
            rw [← HKL.out, ← HN.out]
            have e2 : 3 * k + 28 = m := by have := HP.out; have := HNN.out; omega
            rw [e2]
          rw [e, ← fillW_all L p HLL.out]
          exact HI.out.1
end Go.Proofs.Ytdlalpklopnpjaa
