/- The words of any key are the document's. No condition. -/
import Derived.Test.YtdlalpklopnpjaaAesRefFrame
import Derived.Test.YtdlalpklopnpjaaGrows
namespace Go.Proofs.Ytdlalpklopnpjaa
open Go.ChangeShapes Go.WideShapes Go.ChangeAt Go.RowKit

theorem callWords (args : Array Value) (w : World) : (callFunc 18 args).run Try.prog w = .ok (.enter 18 args) w := by kernel_rfl
theorem callAwake (args : Array Value) (w : World) : (callFunc 12 args).run Try.prog w = .ok (.enter 12 args) w := by kernel_rfl
theorem run_index0 {w : World} {o : Oper} {a : Act} {x : Operand} {g n c : Nat} (ho : o.op = .indexAddr 39 x (.const (.int .i64 0))) (hx : a.eval x = .slice (some ⟨g, 0, none⟩) n c) (hn : 1 ≤ n) :
    (execOp a.eval o).run Try.prog w = .ok (.value (.pointer (some ⟨g, 0, none⟩))) w := by
  have e : a.eval (.const (.int .i64 0)) = .int .i64 0 := rfl
  obtain ⟨m, rfl⟩ : ∃ m, n = m + 1 := ⟨n - 1, by omega⟩
  unfold execOp
  simp only [ho, hx, e]
  go_simp
theorem run_load42 {w : World} {o : Oper} {a : Act} {x : Operand} {g z : Nat} (ho : o.op = .load 42 x) (hx : a.eval x = .pointer (some ⟨g, 0, none⟩)) (hc : w.cell? ⟨g, 0, none⟩ = some (.int .u32 (z : Int))) :
    (execOp a.eval o).run Try.prog w = .ok (.value (.int .u32 (z : Int))) w := by
  unfold execOp
  simp only [ho, hx]
  go_simp
theorem run_neq42 {w : World} {o : Oper} {a : Act} {x y : Operand} {p q : Nat} (ho : o.op = .binOp .neq 42 x y 42) (hx : a.eval x = .int .u32 (p : Int)) (hy : a.eval y = .int .u32 (q : Int)) (hpq : ¬ p = q) :
    (execOp a.eval o).run Try.prog w = .ok (.value (.bool true)) w := by
  have h : ((p : Int) != (q : Int)) = true := by simp; omega
  unfold execOp
  simp only [ho, hx, hy]
  go_simp
theorem run_pick {P : Program} {w : World} {o : Oper} {a : Act} {c x y : Operand} {v : Value} (ho : o.op = .pick c x y) (hc : a.eval c = .bool true) (hx : a.eval x = v) : (execOp a.eval o).run P w = .ok (.value v) w := by
  unfold execOp
  simp only [ho, hx, hc]
  rfl
set_option maxRecDepth 100000 in
set_option maxHeartbeats 4000000 in
theorem aesWords_walk (v : Value) (xs : List Nat) (w : World) (hv : Bs w v xs ∧ xs.length ≤ 140737488351232) :
    Calls Try.prog 6 #[v] w fun e w' => e = .returned (.bool true) ∧ Below w.heap.size w w' := by
  obtain ⟨hv, -⟩ := hv
  obtain ⟨key, rfl, hk⟩ := hv.key
  clear hv
  have hzk := zeroK
  obtain ⟨Z, hZ⟩ : ∃ Z, Z = zeroKey.toArray := ⟨_, rfl⟩
  rw [← hZ] at hzk
  have HZ := Hid.mk' hZ
  have HK := Hid.mk' hk
  obtain ⟨ao, cap, rfl, -, -⟩ := hk.gen
  clear hk hZ
  by_cases hlen : key.length = 16 ∨ key.length = 32
  · have HLEN := Hid.mk' hlen
    have HN := Hid.mk' (anew_any HK.out hlen)
    clear hlen
    generalize (nts key).length = kn at *
    go_enter Try.func6, Try.ntmps6
    go_wp2_with fail
    refine Calls.mono HN.out ?_
    rintro e w1 ⟨gc, gb, gw, rfl, hcph, -, hbut⟩
    have HT1 := Hid.mk' hbut
    have HC1 := Hid.mk' hcph
    have HRN := Hid.mk' (rnew_own (HK.out.but hbut (fun _ _ _ h => h)) HLEN.out)
    clear hbut hcph HN HK
    go_wp2_with fail
    refine Calls.mono HRN.out ?_
    rintro e w2 ⟨vW, rfl, ⟨hwr, -⟩, hbut2⟩
    obtain ⟨gv, cv, hvw, hgv, -⟩ := id hwr
    have HT2 := Hid.mk' (HT1.out.trans hbut2)
    have HC2 := Hid.mk' (HC1.out.grow hbut2)
    have HWR2 := Hid.mk' hwr
    have HON : Hid (∀ u ∈ keyV vW, u.oneCell' = true) := by show ∀ u ∈ keyV vW, u.oneCell' = true; rw [hvw]; exact keyV_one _ _ _
    have HGV := Hid.mk' hgv
    have HVW := Hid.mk' hvw
    clear hwr hbut2 hvw hgv HT1 HC1 HRN
    obtain ⟨KL, hKL⟩ : ∃ KL, KL = keyV vW := ⟨_, rfl⟩
    rw [← hKL] at HON ⊢
    have HKN : Hid (KL.length = 513) := by show _ = _; rw [hKL]; exact keyV_len _
    have HKE := Hid.mk' hKL
    clear hKL
    have HK0 : Hid (Blk (w2.alloc (.cells Z 32)) w2.heap.size 32 zeroKey) := by show Blk _ _ _ _; rw [HZ.out]; exact Blk.new rfl
    go_upto_region 3 with (refine wpList_store_key rfl _ _ rfl w2.heap.size KL HKN.out HON.out rfl (by rfl) HK0.out ?_; intro w3 hb3 hbut3)
    obtain ⟨gk, hgk⟩ : ∃ gk, gk = w2.heap.size := ⟨_, rfl⟩
    rw [← hgk] at hb3 hbut3 ⊢
    have hx3 : But (· = gk) w2 w3 := ((But.refl (· = gk) w2).alloc _).trans hbut3
    have hclt : gc < gk ∧ gb < gk ∧ gw < gk ∧ gv < gk := by rw [hgk]; exact ⟨HC2.out.blk.lt, HC2.out.bxs.lt, HC2.out.wds.elim fun T h => h.lt, HGV.out⟩
    have HC3 := Hid.mk' (HC2.out.but hx3 (show ¬ (gc = gk) by omega) (show ¬ (gb = gk) by omega) (show ¬ (gw = gk) by omega))
    have HWR3 := Hid.mk' (HWR2.out.but hx3 (fun j hj => show ¬ (j = gk) by rw [HVW.out] at hj; cases hj; show ¬ (gv = gk); omega))
    have HT3 := Hid.mk' (HT2.out.then hx3 (fun i hi e => by have := HT2.out.size; omega))
    have HK3 := Hid.mk' hb3
    have HWL := Hid.mk' (words_lens HLEN.out)
    have HW4 := Hid.mk' (words_four key)
    obtain ⟨W, hW⟩ : ∃ W, W = words key := ⟨_, rfl⟩
    rw [← hW] at HC3 HWR3 HWL HVW HW4
    obtain ⟨N, hN⟩ : ∃ N, N = W.length := ⟨_, rfl⟩
    have HWO := Hid.mk' (words_any HC3.out)
    rw [← hN] at HVW HWO HWL
    have HNE := Hid.mk' hN
    have hN60 : N ≤ 60 := by have := HWL.out; omega
    have hN0 : 0 < N := by have := HWL.out; omega
    clear hW hN hb3 hbut3 hx3 hgk hclt HC2 HWR2 HT2 HK0 hzk HGV HLEN
    generalize KL.toArray = KV
    go_wp2_with fail
    refine Calls.mono HWO.out ?_
    rintro e w4 ⟨gl, lc, cur, rfl, hbl, htk, hgl, hbut4⟩
    have HC4 := Hid.mk' (HC3.out.grow hbut4)
    have HWR4 := Hid.mk' (HWR3.out.but hbut4 (fun _ _ h => h))
    have HT4 := Hid.mk' (HT3.out.trans hbut4)
    have HK4 := Hid.mk' (HK3.out.but hbut4 (fun h => h))
    have HBL := Hid.mk' hbl
    have HTK := Hid.mk' htk
    have HGL : Hid (w3.heap.size ≤ gl ∧ gk < gl) := ⟨hgl, by have := HK3.out.lt; omega⟩
    have k0 : w4.cell? ⟨gk, 0, none⟩ = some (.slice (some ⟨gv, 0, none⟩) N cv) := by rw [HK4.out.cell, HKE.out, HVW.out]; rfl
    have HCB : Hid (gc < w3.heap.size ∧ gb < w3.heap.size ∧ gw < w3.heap.size) := ⟨HC3.out.blk.lt, HC3.out.bxs.lt, HC3.out.wds.elim fun T h => h.lt⟩
    have HT3S : Hid (w.heap.size ≤ gl) := Nat.le_trans HT3.out.size hgl
    clear hbl htk hgl hbut4 HC3 HWR3 HT3 HK3 HWO
    go_wp2
    have HWC : Hid (∀ w' i j, But (fun _ => False) w4 w' → i < N → j < 4 → w'.cell? ⟨gv, 4 * i + j, none⟩ = some (.int .u8 (b8 (at8 (W.getD i []) j) : Nat))) := by
      intro w' i j hw' hi hj
      obtain ⟨g', c', he, -, hc⟩ := HWR4.out.but hw' (fun _ _ h => h)
      rw [HVW.out] at he
      cases he
      exact hc i j (by rw [← HNE.out]; exact hi) hj
    have HLC : Hid (∀ w' i, But (fun _ => False) w4 w' → i < N → w'.cell? ⟨gl, i, none⟩ = some (wv (W.getD i []))) := by
      intro w' i hw' hi
      rw [(HBL.out.but hw' (fun h => h)).cell]
      have e : cur[i]? = (cur.take W.length)[i]? := by rw [List.getElem?_take, if_pos (by rw [← HNE.out]; exact hi)]
      rw [← HNE.out, HTK.out, List.getElem?_map] at e
      rw [e]
      have hi' : i < W.length := by rw [← HNE.out]; exact hi
      simp [List.getD, hi']
    go_loopw [8] (fun i wr => ∃ k : Nat, k ≤ N ∧ i = .int .i64 k ∧ But (fun _ => False) w4 wr) (fun i _ => N - (intOf i).toNat)
    case atStart => exact ⟨0, by omega, rfl, But.refl _ _⟩
    case round =>
      obtain ⟨k, hk, rfl, hbt⟩ := hrel
      have HBT := Hid.mk' hbt
      clear hbt
      by_cases hlt : k < N
      · have hki : (k : Int) < (N : Int) := by omega
        have k1 : wr.cell? ⟨gk, 0, none⟩ = some (.slice (some ⟨gv, 0, none⟩) N cv) := by rw [(HK4.out.but HBT.out (fun h => h)).cell, HKE.out, HVW.out]; rfl
        obtain ⟨x, hx⟩ : ∃ x, x = W.getD k [] := ⟨_, rfl⟩
        have HX4 : Hid (x.length = 4) := by show _ = _; rw [hx]; exact getD_four HW4.out k (by rw [← HNE.out]; exact hlt)
        have HXC : Hid (∀ j v, (u8s (nts x))[j]? = some v → wr.cell? ((⟨gv, k * 4, none⟩ : Addr).add j) = some v) := by
          intro j v hv
          have hj : j < 4 := by
            have := (List.getElem?_eq_some_iff.1 hv).1
            rwa [u4l _ HX4.out] at this
          have e : (⟨gv, k * 4, none⟩ : Addr).add j = ⟨gv, 4 * k + j, none⟩ := by rw [Nat.mul_comm]; simp [Addr.add]
          rw [e, HWC.out wr k j HBT.out hlt hj, ← hx, ← hv]
          unfold u8s
          rw [List.getElem?_map, nts_at x j (by rw [HX4.out]; exact hj)]; rfl
        have HXN : Hid ((nts x).length = 4) := by show _ = _; rw [nts_len]; exact HX4.out
        have HXE := Hid.mk' hx
        have hz4 : ∀ w : World, (zeroValue 41).run Try.prog w = .ok (.agg (u8s (List.replicate 4 0)).toArray) w := fun _ => by kernel_rfl
        obtain ⟨Z4, hZ4⟩ : ∃ Z4, Z4 = (u8s (List.replicate 4 0)).toArray := ⟨_, rfl⟩
        rw [← hZ4] at hz4
        have HZB : Hid (Blk (wr.alloc (.cells Z4 41)) wr.heap.size 41 (u8s (List.replicate 4 0))) := by show Blk _ _ _ _; rw [hZ4]; exact Blk.new rfl
        clear hx hZ4 k0
        go_upto_region 10 with (first
          | (refine wpList_load_cells rfl _ _ rfl ⟨gv, k * 4, none⟩ (by rfl) (u8s (nts x)) _ HXC.out Try.underlying41 rfl (by rw [i4s, u4l _ HX4.out]) ?_)
          | (refine wpList_store_u8s i4s rfl _ _ rfl wr.heap.size (nts x) HXN.out rfl (by exact rfl) _ (by simp [u8s]) HZB.out ?_; intro w6 hb6 hbut6)
          | fail)
        obtain ⟨gx, hgx⟩ : ∃ gx, gx = wr.heap.size := ⟨_, rfl⟩
        rw [← hgx] at hb6 hbut6 ⊢
        have hx6 : But (fun _ => False) w4 w6 := (HBT.out.trans ((But.refl _ wr).alloc _)).then hbut6 (fun i hi e => by have := HBT.out.size; omega)
        have HT6 := Hid.mk' hx6
        have cl := HLC.out w6 k hx6 hlt
        rw [← HXE.out] at cl
        have c0 := blk_nts hb6 0 (by rw [HX4.out]; decide)
        have c1 := blk_nts hb6 1 (by rw [HX4.out]; decide)
        have c2 := blk_nts hb6 2 (by rw [HX4.out]; decide)
        have c3 := blk_nts hb6 3 (by rw [HX4.out]; decide)
        unfold wv num4 at cl
        have p4 := b8_lt (at8 x 0)
        have q4 := b8_lt (at8 x 1)
        have r4 := b8_lt (at8 x 2)
        have t4 := b8_lt (at8 x 3)
        generalize b8 (at8 x 0) = p at *
        generalize b8 (at8 x 1) = q at *
        generalize b8 (at8 x 2) = r at *
        generalize b8 (at8 x 3) = t at *
        obtain ⟨S, hS⟩ : ∃ S, S = p * 16777216 + q * 65536 + r * 256 + t := ⟨_, rfl⟩
        rw [← hS] at cl
        have wu : ∀ n : Int, 0 ≤ n → n < 4294967296 → IntKind.u32.wrap n = n := by intro n h1 h2; simp [IntKind.wrap, IntKind.bits, IntKind.signed]; omega
        obtain ⟨P1, hP1⟩ : ∃ n, n = p * 16777216 := ⟨_, rfl⟩
        obtain ⟨Q1, hQ1⟩ : ∃ n, n = q * 65536 := ⟨_, rfl⟩
        obtain ⟨R1, hR1⟩ : ∃ n, n = r * 256 := ⟨_, rfl⟩
        obtain ⟨A1, hA1⟩ : ∃ n, n = P1 + Q1 := ⟨_, rfl⟩
        obtain ⟨A2, hA2⟩ : ∃ n, n = A1 + R1 := ⟨_, rfl⟩
        have f1 : IntKind.u32.wrap (p : Int) = (p : Int) := wu _ (by omega) (by omega)
        have f2 : IntKind.u32.wrap (q : Int) = (q : Int) := wu _ (by omega) (by omega)
        have f3 : IntKind.u32.wrap (r : Int) = (r : Int) := wu _ (by omega) (by omega)
        have f4 : IntKind.u32.wrap (t : Int) = (t : Int) := wu _ (by omega) (by omega)
        have f5 : IntKind.u32.wrap ((p : Int) * 16777216) = (P1 : Int) := by rw [wu _ (by omega) (by omega)]; omega
        have f6 : IntKind.u32.wrap ((q : Int) * 65536) = (Q1 : Int) := by rw [wu _ (by omega) (by omega)]; omega
        have f7 : IntKind.u32.wrap ((r : Int) * 256) = (R1 : Int) := by rw [wu _ (by omega) (by omega)]; omega
        have f8 : IntKind.u32.wrap ((P1 : Int) + (Q1 : Int)) = (A1 : Int) := by rw [wu _ (by omega) (by omega)]; omega
        have f9 : IntKind.u32.wrap ((A1 : Int) + (R1 : Int)) = (A2 : Int) := by rw [wu _ (by omega) (by omega)]; omega
        have f10 : IntKind.u32.wrap ((A2 : Int) + (t : Int)) = (S : Int) := by rw [wu _ (by omega) (by omega)]; omega
        clear wu hP1 hQ1 hR1 hA1 hA2 hS p4 q4 r4 t4
        clear hb6 hbut6 hgx hx6 hz4 HZB HXC k1
        go_quiet (fail)
        go_wp2
        exact ⟨⟨k + 1, by omega, by go_num, HT6.out.drewN⟩, by simp [intOf]; omega⟩
      · have hkN : k = N := by omega
        subst hkN
        obtain ⟨x, hx⟩ : ∃ x, x = W.getD 0 [] := ⟨_, rfl⟩
        have cl := HLC.out wr 0 HBT.out hN0
        obtain ⟨cur', hbl⟩ : ∃ cur', Blk wr gl 42 cur' := ⟨cur, HBL.out.but HBT.out (fun h => h)⟩
        have fl := hbl.free 0
        rw [← hx] at cl
        obtain ⟨X, hX⟩ : ∃ X : Nat, X = num4 (at8 x 0) (at8 x 1) (at8 x 2) (at8 x 3) := ⟨_, rfl⟩
        unfold wv at cl
        rw [← hX] at cl
        have hXl : X < 4294967296 := by rw [hX]; exact num4_lt _ _ _ _
        obtain ⟨Y, hY⟩ : ∃ Y : Nat, Y = (X + 1) % 4294967296 := ⟨_, rfl⟩
        have y1 : IntKind.u32.wrap ((X : Int) + 1) = (Y : Int) := by simp [IntKind.wrap, IntKind.bits, IntKind.signed]; omega
        have y2 : ((X : Int) + 1) % 4294967296 = (Y : Int) := by omega
        have hXY : ¬ X = Y := by omega
        have HXE := Hid.mk' hx
        have HXX := Hid.mk' hX
        have HXY := Hid.mk' hXY
        have hk1 : 1 ≤ k := hN0
        clear hx hX hY hXY k0
        obtain ⟨wz, hwz⟩ : ∃ wz, wz = wr.setCell ⟨gl, 0, none⟩ (.int .u32 (Y : Int)) := ⟨_, rfl⟩
        have hbz : But (· = gl) wr wz := by rw [hwz]; exact (But.refl (· = gl) wr).setCell (p := ⟨gl, 0, none⟩) (fun _ => rfl) _
        have HYC : Hid (∀ w', But (fun _ => False) wz w' → w'.cell? ⟨gl, 0, none⟩ = some (.int .u32 (Y : Int))) := by
          intro w' hw'
          have hb := hbl.set 0 (.int .u32 (Y : Int))
          rw [← hwz] at hb
          rw [(hb.but hw' (fun h => h)).cell]
          have hlen : 0 < cur'.length := by
            rw [hbl.cell] at cl
            exact (List.getElem?_eq_some_iff.1 cl).1
          simp [hlen]
        have hc4 := HC4.out.grow HBT.out
        have hlt3 := HGL.out.1
        have HCZ : Hid (Cph wz gc gb gw W) := by
          have h1 := HCB.out
          exact hc4.but hbz (show ¬ (gc = gl) by omega) (show ¬ (gb = gl) by omega) (show ¬ (gw = gl) by omega)
        have HTZ : Hid (But (fun _ => False) w wz) := (HT4.out.trans HBT.out).then hbz (fun i hi e => by have := HT3S.out; omega)
        have HWZ : Hid (∀ w', But (fun _ => False) wz w' → Calls Try.prog 18 #[.pointer (some ⟨gc, 0, none⟩)] w' fun e w'' => ∃ g cap cur, e = .returned (.slice (some ⟨g, 0, none⟩) k cap) ∧ Blk w'' g 42 cur ∧ cur.take k = W.map wv ∧ But (fun _ => False) w' w'') := by
          intro w' hw'
          refine (words_any (HCZ.out.grow hw')).mono ?_
          rintro e w'' ⟨g', cap', cur2, he, h1, h2, -, h3⟩
          rw [← HNE.out] at he h2
          exact ⟨g', cap', cur2, he, h1, h2, h3⟩
        have HW0 : Hid (∀ (c : List Value), c.take k = W.map wv → c[0]? = some (.int .u32 (X : Int))) := by
          intro c hc
          have e : c[0]? = (c.take k)[0]? := by rw [List.getElem?_take, if_pos (by omega)]
          rw [e, hc, List.getElem?_map]
          have hi' : 0 < W.length := by rw [← HNE.out]; exact hk1
          have e2 : W[0]? = some x := by rw [HXE.out]; simp [List.getD, hi']
          rw [e2, HXX.out]; rfl
        clear hbl hbz hc4 hlt3 HC4 HWR4 HK4 HBL HTK HWC HLC HBT HT4 HGL
        go_upto_region 13 with fail
        rw [← hwz]
        clear hwz cl fl y1 y2
        refine region_grow (by kernel_rfl) (by kernel_rfl) (by kernel_rfl) (fun i v wx => match i with
          | 0 => v = .pointer (some ⟨gc, 0, none⟩)
          | 1 => ∃ g cap cur, v = .slice (some ⟨g, 0, none⟩) k cap ∧ Blk wx g 42 cur ∧ cur.take k = W.map wv
          | 2 => ∃ g cur, v = .pointer (some ⟨g, 0, none⟩) ∧ Blk wx g 42 cur ∧ cur.take k = W.map wv
          | 3 => v = .int .u32 (X : Int)
          | 4 => v = .slice (some ⟨gl, 0, none⟩) k lc
          | 5 => v = .pointer (some ⟨gl, 0, none⟩)
          | 6 => v = .int .u32 (Y : Int)
          | _ => v = .bool true) ?_ ?_ ?_
        · intro i v wx wy h kk
          split at h
          all_goals first | exact h | (obtain ⟨g', c', cu, h1, h2, h3⟩ := h; exact ⟨g', c', cu, h1, h2.but kk (fun h => h), h3⟩) | (obtain ⟨g', cu, h1, h2, h3⟩ := h; exact ⟨g', cu, h1, h2.but kk (fun h => h), h3⟩)
        · intro i o a wx ho hbut hkn
          match i, (Array.getElem?_eq_some_iff.1 ho).1 with
          | 0, _ =>
            obtain rfl := Option.some.inj ho
            exact ⟨Know.free rfl, op_value _ rfl ⟨_, rfl, But.refl _ _, hkn.was 3 (by kernel_rfl)⟩⟩
          | 1, _ =>
            obtain rfl := Option.some.inj ho
            have e := hkn.val 0 82 (by kernel_rfl) rfl
            refine ⟨Know.free rfl, op_call 18 [_] _ #[.pointer (some ⟨gc, 0, none⟩)] rfl (by show #[a.eval (.tmp 82)] = _; rw [e]) (callWords _ _) ((HWZ.out wx hbut).mono ?_)⟩
            rintro e u ⟨g', c', cu, rfl, h1, h2, h3⟩
            exact ⟨_, rfl, _, rfl, h3, g', c', cu, rfl, h1, h2⟩
          | 2, _ =>
            obtain rfl := Option.some.inj ho
            obtain ⟨g', c', cu, e, h1, h2⟩ := hkn.val 1 83 (by kernel_rfl) rfl
            exact ⟨Know.free rfl, op_value _ (run_index0 rfl e hk1) ⟨_, rfl, But.refl _ _, g', cu, rfl, h1, h2⟩⟩
          | 3, _ =>
            obtain rfl := Option.some.inj ho
            obtain ⟨g', cu, e, h1, h2⟩ := hkn.val 2 84 (by kernel_rfl) rfl
            exact ⟨Know.free rfl, op_value _ (run_load42 rfl e (by rw [h1.cell]; exact HW0.out cu h2)) ⟨_, rfl, But.refl _ _, rfl⟩⟩
          | 4, _ =>
            obtain rfl := Option.some.inj ho
            exact ⟨Know.free rfl, op_value _ rfl ⟨_, rfl, But.refl _ _, hkn.was 7 (by kernel_rfl)⟩⟩
          | 5, _ =>
            obtain rfl := Option.some.inj ho
            have e := hkn.val 4 86 (by kernel_rfl) rfl
            exact ⟨Know.free rfl, op_value _ (run_index0 rfl e hk1) ⟨_, rfl, But.refl _ _, rfl⟩⟩
          | 6, _ =>
            obtain rfl := Option.some.inj ho
            have e := hkn.val 5 87 (by kernel_rfl) rfl
            exact ⟨Know.free rfl, op_value _ (run_load42 rfl e (HYC.out wx hbut)) ⟨_, rfl, But.refl _ _, rfl⟩⟩
          | 7, _ =>
            obtain rfl := Option.some.inj ho
            have e1 := hkn.val 3 85 (by kernel_rfl) rfl
            have e2 := hkn.val 6 88 (by kernel_rfl) rfl
            exact ⟨Know.free rfl, op_value _ (run_neq42 rfl e1 e2 HXY.out) ⟨_, rfl, But.refl _ _, rfl⟩⟩
          | 8, _ =>
            obtain rfl := Option.some.inj ho
            exact ⟨Know.free rfl, op_value _ rfl ⟨_, rfl, But.refl _ _, hkn.val 7 89 (by kernel_rfl) rfl⟩⟩
          | 9, _ =>
            obtain rfl := Option.some.inj ho
            refine ⟨hkn.guard 8 90 true rfl (by kernel_rfl) rfl (fun _ h => h), op_call 12 [] _ #[] rfl rfl (callAwake _ _) ((awake_any wx).mono ?_)⟩
            rintro e u ⟨rfl, hu⟩
            exact ⟨_, rfl, _, rfl, hu, rfl⟩
          | 10, _ =>
            obtain rfl := Option.some.inj ho
            have e1 := hkn.val 8 90 (by kernel_rfl) rfl
            have e2 := hkn.val 9 91 (by kernel_rfl) rfl
            exact ⟨Know.free rfl, op_value _ (run_pick rfl e1 e2) ⟨_, rfl, But.refl _ _, rfl⟩⟩
          | 11, _ =>
            obtain rfl := Option.some.inj ho
            exact ⟨Know.free rfl, op_value _ rfl ⟨_, rfl, But.refl _ _, hkn.val 10 92 (by kernel_rfl) rfl⟩⟩
          | kk + 12, h => exact absurd h (by simp)
        · intro a wx hbut hdef hdone hold
          obtain ⟨v2, hv2, hr2⟩ := hdone 11 2 rfl
          have e2 : a.tmps.getD 2 undef = .bool true := by rw [Array.getD_eq_getD_getElem?, hv2]; exact hr2
          go_wp2
          refine bodyPost_ret (results_tmp rfl a.tmps Try.prog wx) (hdef.trans rfl) ?_
          exact ⟨by rw [e2], (HTZ.out.trans hbut).below (Nat.le_refl _) (fun _ _ h => h)⟩
  · have h16 : (nts key).length ≠ 16 := by rw [nts_len]; omega
    have h32 : (nts key).length ≠ 32 := by rw [nts_len]; omega
    have HN := Hid.mk' (anew_none HK.out h16 h32)
    have HRN := Hid.mk' (rnew_none HK.out h16 h32)
    clear hlen h16 h32
    generalize (nts key).length = n at *
    go_enter Try.func6, Try.ntmps6
    go_wp2_with fail
    refine Calls.mono HN.out ?_
    rintro e w1 ⟨rfl, hw⟩
    have hw' := hw.symm
    subst hw'
    go_wp2_with fail
    refine Calls.mono HRN.out ?_
    rintro e w2 ⟨rfl, hb2⟩
    have HT2 := Hid.mk' hb2
    have HK0 : Hid (Blk (w2.alloc (.cells Z 32)) w2.heap.size 32 zeroKey) := by show Blk _ _ _ _; rw [HZ.out]; exact Blk.new rfl
    obtain ⟨KL, hKL⟩ : ∃ KL, KL = zeroKey := ⟨_, rfl⟩
    rw [← hKL]
    have HKN : Hid (KL.length = 513) := by show _ = _; rw [hKL]; exact zeroKey_len
    have HON : Hid (∀ u ∈ KL, u.oneCell' = true) := by show ∀ u ∈ KL, u.oneCell' = true; rw [hKL]; exact zeroKey_one
    clear hb2 HN HRN hKL
    go_wp2_with (first
      | (refine wpList_store_key rfl _ _ rfl w2.heap.size KL HKN.out HON.out rfl (by rfl) HK0.out ?_; intro w3 hb3 hbut3)
      | fail)
    refine Calls.mono (words_nil _) ?_
    rintro e w4 ⟨rfl, hw⟩
    have hw' := hw.symm
    subst hw'
    have HT3 : Hid (But (fun _ => False) w w3) := (HT2.out.trans ((But.refl _ w2).alloc _)).then hbut3 (fun i hi e => by have := HT2.out.size; omega)
    clear hbut3 hb3
    go_wp2_with fail
    refine Calls.mono (awake_any _) ?_
    rintro e w5 ⟨rfl, hb5⟩
    have HT4 := Hid.mk' (HT3.out.trans hb5)
    clear hb5
    go_wp2
    go_ret
    exact ⟨rfl, HT4.out.below (Nat.le_refl _) (fun _ _ h => h)⟩

set_option maxRecDepth 100000 in
theorem aesWords_lifted (os : Os) (started : os.Started) (H : Type) (enc : TypeId × Value → H) :
    ReturnsInHanded {} Try.checked os 6 .any (Rows.aesWordsSpec.pre6 enc Try.prog Try.f6 Rows.aesWordsRow.domain false) (Rows.aesWordsSpec.post enc Try.prog Try.f6 false true false false) := by
  refine returnsInHanded_of_change_sized (C := Try.checked) (by kernel_rfl) started (by kernel_rfl) Try.func6
    (ChangeSpec.witness6 (enc := enc) (C := Try.checked) false ⟨#[], #[.slice none 0 0], []⟩ 8 (by kernel_rfl) (by kernel_rfl) (by kernel_rfl) (by kernel_rfl)) ?_
  intro W base args ds gs before hval0 hW hcnd hsz0 _
  have hsz : (DataW.weightsEach Try.prog (Try.f6.params.toList ++ Rows.aesWordsSpec.plain.varTypes Try.prog) (ds ++ gs)).all (· ≤ reachBytes) = true := hsz0
  clear hsz0
  have hval : ∀ (j : Nat) t v, Try.f6.params[j]? = some t → args[j]? = some v → Value.okWide Try.prog W .any base t v := hval0
  have hW' := hW
  obtain ⟨p, q, hA0, hV, rfl, hfz, hnd⟩ := hW
  have hA : DataW.TrodAll enc Try.prog W 0 (fun _ => true) true Try.f6.params.toList args.toList ds p := hA0
  rw [Try.params6] at hA hval hsz
  obtain ⟨v0, vs0, d0, ds0, p0, q0, hargs, rfl, rfl, h0, r0⟩ := trodAll_cons hA
  obtain ⟨rfl, rfl, rfl⟩ := trodAll_nil r0
  obtain rfl : args = #[v0] := by cases args; simp_all
  obtain ⟨rfl, rfl⟩ := trodVars_none hV
  have lt0 : ∀ x ∈ p0, x.block < W.heap.size := by obtain ⟨m, hm⟩ := h0; exact DataW.trod_lt m _ _ _ hm
  obtain ⟨z0, w0⟩ := view_bytes Try.underlying22 Try.underlying5 (by kernel_rfl) (by kernel_rfl) (hval 0 22 v0 rfl rfl) h0 lt0 hsz (j := 0) rfl rfl
  clear hA0 hval0
  refine (aesWords_walk v0 z0 W w0).mono fun e W' ⟨he, bel⟩ => ?_
  subst he
  exact ⟨_, rfl, _, _, _, [], _, [], hW', trodAll_mk1 (shut_bool Try.underlying4 _), (trodAll_cons_mk (Below.trod (by kernel_rfl) (by kernel_rfl) (of_decide_eq_true (by kernel_rfl)) h0 bel lt0) trodAll_mk0), rfl, bel.frame _, fun h => by cases h⟩

theorem aesWords_holds : Rows.AesWordsSaid :=
  OpenClaim.holds_of_wide 6 Try.f6 rfl rfl rfl rfl rfl rfl rfl ⟨rfl, rfl, rfl, rfl, rfl⟩ rfl rfl rfl rfl rfl (by kernel_rfl) Try.func6 (by kernel_rfl)
    (of_decide_eq_true (by kernel_rfl)) (by unfold Func.isWrapper; first | (rw [if_pos (by decide +kernel)]; kernel_rfl) | (rw [if_neg (by decide +kernel)]; exact ⟨rfl, rfl⟩))
    (fun os started H enc _ => aesWords_lifted os started H enc)
#print axioms aesWords_holds
end Go.Proofs.Ytdlalpklopnpjaa
