/- The reference's Encrypt. -/
import Derived.Test.YtdlalpklopnpjaaRefAdd
namespace Go.Proofs.Ytdlalpklopnpjaa
open Go.RowKit

def partSubs (b : List B8) (m : Nat) : List B8 := mk16 fun i => if i < m then bx (at8 b (4 * ((i / 4 + i % 4) % 4) + i % 4)) else 0
theorem partSubs_len (b : List B8) (m : Nat) : (partSubs b m).length = 16 := mk16_len _
theorem partSubs_zero (b : List B8) : partSubs b 0 = List.replicate 16 0 := by
  refine at8_ext (partSubs_len _ _) (by simp) (fun i hi => ?_)
  have e : at8 (List.replicate 16 (0 : B8)) i = 0 := by unfold at8 List.getD; rw [List.getElem?_replicate, if_pos hi]; rfl
  unfold partSubs; rw [mk16_at _ i hi, if_neg (Nat.not_lt_zero _), e]
theorem partSubs_all (b : List B8) : partSubs b 16 = subs b := by
  refine at8_ext (partSubs_len _ _) (subs_len _) (fun i hi => ?_)
  unfold partSubs subs; rw [mk16_at _ i hi, mk16_at _ i hi, if_pos hi]
theorem partSubs_set (b : List B8) (m : Nat) (h : m < 16) : (partSubs b m).set m (bx (at8 b (4 * ((m / 4 + m % 4) % 4) + m % 4))) = partSubs b (m + 1) := by
  refine at8_ext (by rw [List.length_set]; exact partSubs_len _ _) (partSubs_len _ _) (fun i hi => ?_)
  rw [at8_set _ _ _ _ (by rw [partSubs_len]; exact h)]
  unfold partSubs
  rw [mk16_at _ i hi, mk16_at _ i hi]
  by_cases h2 : i = m
  · subst h2; rw [if_pos rfl, if_pos (Nat.lt_succ_self _)]
  · rw [if_neg h2]
    by_cases h3 : i < m
    · rw [if_pos h3, if_pos (by omega)]
    · rw [if_neg h3, if_neg (by omega)]
theorem key_box {w : World} {g : Nat} {T : TypeId} {v : Value} (h : Blk w g T (keyV v)) (x : B8) : w.cell? ⟨g, 1 + b8 x, none⟩ = some (.int .u8 (b8 (bx x) : Nat)) := by
  have hx := b8_lt x
  rw [h.cell]
  unfold keyV
  rw [show 1 + b8 x = b8 x + 1 by omega, List.getElem?_cons_succ, List.getElem?_append_left (by unfold u8s; rw [List.length_map, nts_len, allBx_len]; exact hx)]
  unfold u8s
  rw [List.getElem?_map, nts_at allBx _ (by rw [allBx_len]; exact hx), allBx_at]; rfl
theorem key_back {w : World} {g : Nat} {T : TypeId} {v : Value} (h : Blk w g T (keyV v)) (x : B8) : w.cell? ⟨g, 257 + b8 x, none⟩ = some (.int .u8 (b8 (bk x) : Nat)) := by
  have hx := b8_lt x
  rw [h.cell]
  unfold keyV
  have hl : (u8s (nts allBx)).length = 256 := by unfold u8s; rw [List.length_map, nts_len, allBx_len]
  rw [show 257 + b8 x = (256 + b8 x) + 1 by omega, List.getElem?_cons_succ, List.getElem?_append_right (by omega), hl, show 256 + b8 x - 256 = b8 x by omega]
  unfold u8s
  rw [List.getElem?_map, nts_at allBk _ (by rw [allBk_len]; exact hx), allBk_at]; rfl
/-- What memory is amid Encrypt, the state s. -/
structure EncI (w : World) (g : Nat) (v : Value) (s : List B8) (wr : World) : Prop where
  key : Blk wr g 32 (keyV v)
  st : Blk wr (g + 1) 23 (u8s (nts s))
  res : Blk wr (g + 2) 23 (u8s (List.replicate 16 0))
  but : But (fun _ => False) w wr
theorem EncI.then {w wr w' : World} {g : Nat} {v : Value} {s : List B8} (h : EncI w g v s wr) (k : But (fun _ => False) wr w') : EncI w g v s w' :=
  ⟨h.key.but k (fun h => h), h.st.but k (fun h => h), h.res.but k (fun h => h), h.but.trans k⟩
theorem EncI.put {w wr w' : World} {g gt : Nat} {v : Value} {s : List B8} (h : EncI w g v s wr) (hg : g = w.heap.size) (hgt : g + 2 < gt) (k : But (· = gt) wr w') : EncI w g v s w' :=
  ⟨h.key.but k (show ¬ (g = gt) by omega), h.st.but k (show ¬ (g + 1 = gt) by omega), h.res.but k (show ¬ (g + 2 = gt) by omega), h.but.then k (fun i hi e => by omega)⟩
theorem EncI.state {w wr w' : World} {g : Nat} {v : Value} {s s' : List B8} (h : EncI w g v s wr) (hg : g = w.heap.size) (k : But (· = g + 1) wr w') (hb : Blk w' (g + 1) 23 (u8s (nts s'))) : EncI w g v s' w' :=
  ⟨h.key.but k (show ¬ (g = g + 1) by omega), hb, h.res.but k (show ¬ (g + 2 = g + 1) by omega), h.but.then k (fun i hi e => by omega)⟩
theorem u8l (l : List B8) (h : l.length = 16) : (u8s (nts l)).length = 16 := by unfold u8s; rw [List.length_map, nts_len]; exact h
theorem n16 (l : List B8) (h : l.length = 16) : (nts l).length = 16 := by rw [nts_len]; exact h
theorem iKey : (Try.prog.info? 32).map (·.size) = some 513 := by kernel_rfl
theorem wpList_load_key {w : World} {ops : Array Oper} {rest : List Oper} {o : Oper} {a : Act} {Q : Exit → Act → World → Prop} {v : Value} (h1 : o.guard = none) (x : Operand) (h2 : o.op = .load 32 x) (g : Nat) (h3 : a.eval x = .pointer (some ⟨g, 0, none⟩)) (h4 : Blk w g 32 (keyV v))
    (h5 : wpList Try.prog ops Q rest (a.put o.dst (.agg (keyV v).toArray)) w) : wpList Try.prog ops Q (o :: rest) a w :=
  wpList_load_row h1 32 x h2 g h3 32 _ (0, 0) _ h4 Try.underlying32 rfl (by rw [iKey]; simp [keyV_len]) h5
set_option maxRecDepth 100000 in
set_option maxHeartbeats 1000000 in
theorem renc_any {w : World} {b : List B8} {W : List (List B8)} {v : Value} (hb : b.length = 16) (hW : Wr w v W) (hl : W.length = 44 ∨ W.length = 60) :
    Calls Try.prog 15 #[.agg (keyV v).toArray, .agg (u8s (nts b)).toArray] w fun e w' => e = .returned (.agg (u8s (nts (enc W b))).toArray) ∧ But (fun _ => False) w w' := by
  have hz : ∀ w : World, (zeroValue 23).run Try.prog w = .ok (.agg (u8s (List.replicate 16 0)).toArray) w := fun _ => by kernel_rfl
  obtain ⟨Z, hZ⟩ : ∃ Z, Z = (u8s (List.replicate 16 0)).toArray := ⟨_, rfl⟩
  rw [← hZ] at hz
  obtain ⟨C, hC⟩ : ∃ C, C = (u8s (nts b)).toArray := ⟨_, rfl⟩
  obtain ⟨F, hF⟩ : ∃ F, F = (keyV v).toArray := ⟨_, rfl⟩
  rw [← hC, ← hF]
  have HZ := Hid.mk' hZ
  have HC := Hid.mk' hC
  have HF := Hid.mk' hF
  have HW := Hid.mk' hW
  clear hZ hC hF hW
  obtain ⟨g, hg⟩ : ∃ g, g = w.heap.size := ⟨_, rfl⟩
  obtain ⟨W0, hW0⟩ : ∃ W0, W0 = (((w.alloc (.cells F 32)).alloc (.cells C 23)).alloc (.cells Z 23)) := ⟨_, rfl⟩
  have hI : EncI w g v b W0 := by
    rw [hW0, HC.out, HF.out, HZ.out]
    have al : ∀ (x : World) (o : Obj), But (fun _ => False) x (x.alloc o) := fun x o => (But.refl _ x).alloc o
    refine ⟨?_, ?_, ?_, ((((But.refl _ w).alloc _).alloc _).alloc _)⟩
    · exact ((Blk.new hg.symm).but (al _ _) (fun h => h)).but (al _ _) (fun h => h)
    · exact (Blk.new (by simp [hg])).but (al _ _) (fun h => h)
    · exact Blk.new (by simp [hg])
  have HI := Hid.mk' hI
  have HG := Hid.mk' hg
  have HW0 := Hid.mk' hW0
  obtain ⟨gw, cap, hv, hgw, _⟩ := HW.out
  have HV := Hid.mk' hv
  have c0 : (((w.alloc (.cells F 32)).alloc (.cells C 23)).alloc (.cells Z 23)).cell? ⟨w.heap.size, 0, none⟩ = some (.slice (some ⟨gw, 0, none⟩) W.length cap) := by
    rw [← hW0, ← hg, ← hv, hI.key.cell]; rfl
  obtain ⟨n, hn⟩ : ∃ n, n = W.length := ⟨_, rfl⟩
  rw [← hn] at c0 hl
  obtain ⟨q, hq⟩ : ∃ q, q = n / 4 := ⟨_, rfl⟩
  obtain ⟨L, hL⟩ : ∃ L, L = q - 1 := ⟨_, rfl⟩
  have hL1 : 1 ≤ L := by omega
  have hL2 : L ≤ 14 := by omega
  have HLN : Hid (4 * L + 4 = n) := by show _ = _; omega
  have HN := Hid.mk' hn
  have d1 : Int.tdiv (n : Int) 4 = (q : Int) := by rw [Int.tdiv_eq_ediv_of_nonneg (by omega)]; omega
  have d2 : (n : Int) / 4 = (q : Int) := by omega
  have d3 : (q : Int) - 1 = (L : Int) := by omega
  have HEL : Hid (W.length / 4 - 1 = L) := by show _ = _; rw [← hn, ← hq, ← hL]
  have hq16 : q ≤ 15 := by omega
  have hn60 : n ≤ 60 := by omega
  clear hI hg hW0 hv hn hq hL hl hgw
  go_enter Try.func15, Try.ntmps15
  have HK0 : Hid (Blk (((w.alloc (.cells F 32)).alloc (.cells C 23)).alloc (.cells Z 23)) w.heap.size 32 (keyV v)) := by rw [← HW0.out, ← HG.out]; exact HI.out.key
  have HS0 : Hid (Blk (((w.alloc (.cells F 32)).alloc (.cells C 23)).alloc (.cells Z 23)) (w.heap.size + 1) 23 (u8s (nts b))) := by rw [← HW0.out, ← HG.out]; exact HI.out.st
  have HBL : Hid ((nts b).length = 16) := by show _ = _; rw [nts_len]; exact hb
  have HBL' : Hid ((u8s (nts b)).length = 16) := by show _ = _; unfold u8s; rw [List.length_map, nts_len]; exact hb
  have HB := Hid.mk' hb
  clear hb
  go_wp2_with (first
    | (refine wpList_load_key rfl _ rfl w.heap.size rfl HK0.out ?_)
    | (refine wpList_load_u8s Try.underlying23 i16s rfl _ rfl (w.heap.size + 1) (nts b) HBL.out rfl HS0.out ?_)
    | fail)
  rw [← HW0.out, ← HG.out]
  refine Calls.mono (radd_any (r := 0) HB.out (HW.out.but HI.out.but (fun _ _ h => h)) (by rw [← HN.out]; have := HLN.out; omega) (by rw [← HN.out]; omega)) ?_
  rintro e w1 ⟨rfl, hbut1⟩
  have HI1 := Hid.mk' (HI.out.then hbut1)
  clear hbut1 HI HK0 HS0 c0 HW0
  obtain ⟨S0, hS0⟩ : ∃ S0, S0 = addK W 0 b := ⟨_, rfl⟩
  rw [← hS0]
  have HSL : Hid ((nts S0).length = 16) := by show _ = _; rw [hS0, nts_len, addK_len]
  have HS0 := Hid.mk' hS0
  clear hS0
  go_wp2_with (first
    | (refine wpList_store_u8s i16s rfl _ _ rfl (g + 1) (nts S0) HSL.out rfl (by exact rfl) _ HBL'.out HI1.out.st ?_; intro w2 hb2 hbut2)
    | fail)
  have HI2 : Hid (EncI w g v S0 w2) := by
    have h := HI1.out
    have hs : w.heap.size = g := HG.out.symm
    exact ⟨h.key.but hbut2 (show ¬ (g = g + 1) by omega), hb2, h.res.but hbut2 (show ¬ (g + 2 = g + 1) by omega), h.but.then hbut2 (fun i hi e => by omega)⟩
  rw [show g + 1 + 1 = g + 2 from rfl]
  clear hb2 hbut2 HI1 HB HBL HBL'
  obtain ⟨KV, hKV⟩ : ∃ KV, KV = (keyV v).toArray := ⟨_, rfl⟩
  rw [← hKV]
  generalize (u8s (nts b)).toArray = BV
  generalize (u8s (nts S0)).toArray = SV
  clear hKV
  go_loopw [6] (fun i wr => ∃ k : Nat, k ≤ L ∧ i = .int .i64 (k + 1 : Nat) ∧ EncI w g v (encR W L b k) wr) (fun i _ => 20 - (intOf i).toNat)
  case atStart => exact ⟨0, by omega, rfl, by have h := HI2.out; rw [HS0.out] at h; exact h⟩
  case round =>
    obtain ⟨k, hk, rfl, hI⟩ := hrel
    obtain ⟨S, hS⟩ : ∃ S, S = encR W L b k := ⟨_, rfl⟩
    rw [← hS] at hI
    have HSL : Hid (S.length = 16) := by show _ = _; rw [hS, encR_len]
    have HSE := Hid.mk' hS
    clear hS HI2
    have HI := Hid.mk' hI
    clear hI
    by_cases hlt : k < L
    · obtain ⟨x, hx⟩ : ∃ x, x = k + 1 := ⟨_, rfl⟩
      rw [← hx]
      have hxl : (x : Int) ≤ (L : Int) := by omega
      have HX := Hid.mk' hx
      obtain ⟨wo, hwo⟩ : ∃ wo, wo = wr := ⟨_, rfl⟩
      subst hwo
      have hxL : x ≤ L := by omega
      clear hx
      go_wp2
      obtain ⟨gt, hgt⟩ : ∃ gt, gt = wo.heap.size := ⟨_, rfl⟩
      rw [← hgt]
      have HGT : Hid (g + 2 < gt) := by show _ < _; rw [hgt]; exact HI.out.res.lt
      have HA : Hid (EncI w g v S (wo.alloc (.cells Z 23))) := HI.out.then ((But.refl _ _).alloc _)
      have HT : Hid (Blk (wo.alloc (.cells Z 23)) gt 23 (u8s (nts (partSubs S 0)))) := by
        rw [partSubs_zero, HZ.out]; exact Blk.new hgt.symm
      generalize wo.alloc (.cells Z 23) = W1 at *
      clear hgt HI
      go_loopw [8] (fun i wr => ∃ c : Nat, c ≤ 4 ∧ i = .int .i64 c ∧ EncI w g v S wr ∧ Blk wr gt 23 (u8s (nts (partSubs S (4 * c))))) (fun i _ => 4 - (intOf i).toNat)
      case atStart => exact ⟨0, by decide, rfl, HA.out, HT.out⟩
      case round =>
        obtain ⟨c, hc, rfl, hI, hT⟩ := hrel
        have HI := Hid.mk' hI
        have HT2 := Hid.mk' hT
        clear hI hT HA HT
        obtain ⟨wp, hwp⟩ : ∃ wp, wp = wr := ⟨_, rfl⟩
        subst hwp
        by_cases hc4 : c < 4
        · have hci : (c : Int) < 4 := by omega
          go_wp2
          go_loopw [9] (fun i wr => ∃ r : Nat, r ≤ 4 ∧ i = .int .i64 r ∧ EncI w g v S wr ∧ Blk wr gt 23 (u8s (nts (partSubs S (4 * c + r))))) (fun i _ => 4 - (intOf i).toNat)
          case atStart => exact ⟨0, by decide, rfl, HI.out, HT2.out⟩
          case round =>
            obtain ⟨r, hr, rfl, hI, hT⟩ := hrel
            have HI3 := Hid.mk' hI
            have HT3 := Hid.mk' hT
            clear hI hT HI HT2
            by_cases hr4 : r < 4
            · have hri : (r : Int) < 4 := by omega
              obtain ⟨y, hy⟩ : ∃ y, y = (c + r) % 4 := ⟨_, rfl⟩
              have w5 : Int.tmod ((c : Int) + (r : Int)) 4 = (y : Int) := by rw [Int.tmod_eq_emod_of_nonneg (by omega)]; omega
              have w6 : ((c : Int) + (r : Int)) % 4 = (y : Int) := by omega
              have hy4 : y < 4 := by omega
              have c1 := blk_nts HI3.out.st (4 * y + r) (by rw [HSL.out]; omega)
              have c2 := key_box HI3.out.key (at8 S (4 * y + r))
              have c3 := blk_nts HT3.out (4 * c + r) (by rw [partSubs_len]; omega)
              have hfr := HT3.out.free (4 * c + r)
              have HXX : Hid (at8 S (4 * y + r) = at8 S (4 * (((4 * c + r) / 4 + (4 * c + r) % 4) % 4) + (4 * c + r) % 4)) := by
                show _ = _
                rw [show (4 * c + r) / 4 = c by omega, show (4 * c + r) % 4 = r by omega, hy]
              generalize at8 S (4 * y + r) = X at *
              have hX := b8_lt X
              clear hy
              go_wp2
              have hs : But (· = gt) wr (wr.setCell ⟨gt, 4 * c + r, none⟩ (.int .u8 (b8 (bx X) : Nat))) := (But.refl (· = gt) wr).setCell (p := ⟨gt, 4 * c + r, none⟩) (fun _ => rfl) _
              refine ⟨⟨r + 1, by omega, by go_num, HI3.out.put HG.out HGT.out hs, ?_⟩, by simp [intOf]; omega⟩
              rw [← Nat.add_assoc, ← partSubs_set S (4 * c + r) (by omega), ← HXX.out]
              exact blk_nts_set HT3.out _ _
            · have hr4 : r = 4 := by omega
              subst hr4
              go_wp2
              refine ⟨⟨c + 1, by omega, by go_num, HI3.out, ?_⟩, by simp [intOf]; omega⟩
              rw [Nat.mul_add]
              exact HT3.out
        · have hc4 : c = 4 := by omega
          subst hc4
          obtain ⟨T, hT⟩ : ∃ T, T = subs S := ⟨_, rfl⟩
          rw [show 4 * 4 = 16 from rfl, partSubs_all, ← hT] at HT2
          have HTL : Hid (T.length = 16) := by show _ = _; rw [hT, subs_len]
          have HTE := Hid.mk' hT
          clear hT
          by_cases hm : x < L
          · have hmi : (x : Int) < (L : Int) := by omega
            go_wp2_with (first
              | (refine wpList_load_u8s Try.underlying23 i16s rfl _ rfl gt (nts T) (n16 T HTL.out) rfl HT2.out ?_)
              | (refine wpList_build rfl _ _ rfl (by kernel_rfl) ?_; rw [show (Try.prog.built 41 _).getD #[] = (u8s (nts fwd)).toArray by kernel_rfl])
              | fail)
            refine Calls.mono (mixed_any HTL.out rfl) ?_
            rintro e w3 ⟨rfl, hbut3⟩
            have HI3 := Hid.mk' (HI.out.then hbut3)
            have HT3 := Hid.mk' (HT2.out.but hbut3 (fun h => h))
            clear hbut3 HI HT2
            obtain ⟨M, hM⟩ : ∃ M, M = mixBy fwd T := ⟨_, rfl⟩
            have HML : Hid (M.length = 16) := by show _ = _; rw [hM, mixBy_len]
            rw [← hM]
            have HM := Hid.mk' hM
            clear hM
            go_wp2_with (first
              | (refine wpList_store_u8s i16s rfl _ _ rfl gt (nts M) (n16 M HML.out) rfl (by exact rfl) _ (u8l T HTL.out) HT3.out ?_; intro w4 hb4 hbut4; have HK4 := Hid.mk' (HI3.out.put HG.out HGT.out hbut4))
              | (refine wpList_load_key rfl _ rfl g rfl HK4.out.key ?_)
              | (refine wpList_load_u8s Try.underlying23 i16s rfl _ rfl gt (nts M) (n16 M HML.out) rfl hb4 ?_)
              | fail)
            refine Calls.mono (radd_any (r := x) HML.out (HW.out.but HK4.out.but (fun _ _ h => h)) (by rw [← HN.out]; have := HLN.out; omega) (by rw [← HN.out]; omega)) ?_
            rintro e w5 ⟨rfl, hbut5⟩
            have HI5 := Hid.mk' (HK4.out.then hbut5)
            clear hbut5 hbut4 hb4 HK4 HI3 HT3
            obtain ⟨A, hA⟩ : ∃ A, A = addK W x M := ⟨_, rfl⟩
            have HAL : Hid (A.length = 16) := by show _ = _; rw [hA, addK_len]
            have HAE : Hid (A = encR W L b (k + 1)) := by
              rw [hA, HM.out, HTE.out, HSE.out, HX.out]
              show _ = addK W (k + 1) (if k + 1 < L then _ else _)
              rw [if_pos (by have := HX.out; omega)]
            rw [← hA]
            clear hA
            go_wp2_with (first
              | (refine wpList_store_u8s i16s rfl _ _ rfl (g + 1) (nts A) (n16 A HAL.out) rfl (by exact rfl) _ (u8l S HSL.out) HI5.out.st ?_; intro w6 hb6 hbut6)
              | fail)
            have hxx := HX.out
            refine ⟨⟨k + 1, by omega, by rw [hxx]; go_num, ?_⟩, by simp [intOf]; omega⟩
            rw [← HAE.out]
            exact HI5.out.state HG.out hbut6 hb6
          · have hmi : ¬ ((x : Int) < (L : Int)) := by omega
            go_wp2_with (first
              | (refine wpList_load_key rfl _ rfl g rfl HI.out.key ?_)
              | (refine wpList_load_u8s Try.underlying23 i16s rfl _ rfl gt (nts T) (n16 T HTL.out) rfl HT2.out ?_)
              | fail)
            refine Calls.mono (radd_any (r := x) HTL.out (HW.out.but HI.out.but (fun _ _ h => h)) (by rw [← HN.out]; have := HLN.out; omega) (by rw [← HN.out]; omega)) ?_
            rintro e w5 ⟨rfl, hbut5⟩
            have HI5 := Hid.mk' (HI.out.then hbut5)
            clear hbut5 HI HT2
            obtain ⟨A, hA⟩ : ∃ A, A = addK W x T := ⟨_, rfl⟩
            have HAL : Hid (A.length = 16) := by show _ = _; rw [hA, addK_len]
            have HAE : Hid (A = encR W L b (k + 1)) := by
              rw [hA, HTE.out, HSE.out, HX.out]
              show _ = addK W (k + 1) (if k + 1 < L then _ else _)
              rw [if_neg (by have := HX.out; omega)]
            rw [← hA]
            clear hA
            go_wp2_with (first
              | (refine wpList_store_u8s i16s rfl _ _ rfl (g + 1) (nts A) (n16 A HAL.out) rfl (by exact rfl) _ (u8l S HSL.out) HI5.out.st ?_; intro w6 hb6 hbut6)
              | fail)
            have hxx := HX.out
            refine ⟨⟨k + 1, by omega, by rw [hxx]; go_num, ?_⟩, by simp [intOf]; omega⟩
            rw [← HAE.out]
            exact HI5.out.state HG.out hbut6 hb6
    · have hkL : k = L := by omega
      have HEE : Hid (S = enc W b) := by
        show _ = _
        rw [HSE.out, hkL]; unfold enc; rw [HEL.out]
      have hki : ¬ (((k + 1 : Nat) : Int) ≤ (L : Int)) := by omega
      clear hkL
      go_wp2_with (first
        | (refine wpList_load_u8s Try.underlying23 i16s rfl _ rfl (g + 1) (nts S) (n16 S HSL.out) rfl HI.out.st ?_)
        | (refine wpList_store_u8s i16s rfl _ _ rfl (g + 2) (nts S) (n16 S HSL.out) rfl (by exact rfl) _ (by simp [u8s]) HI.out.res ?_; intro w2 hb2 hbut2))
      refine bodyPost_ret (results_cell_row rfl _ _ (g + 2) _ _ _ _ rfl hb2 Try.underlying23 rfl (by rw [i16s]; simp [u8s, n16 S HSL.out])) rfl ⟨by rw [HEE.out], ?_⟩
      exact HI.out.but.then hbut2 (fun i hi e => by have := HG.out; omega)
end Go.Proofs.Ytdlalpklopnpjaa
