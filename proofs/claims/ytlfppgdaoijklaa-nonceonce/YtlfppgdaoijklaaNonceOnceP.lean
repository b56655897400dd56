/- NonceOnce: no source tells a nonce twice, and two of unlike boots tell none that is the same, whatever epochs they are asked for. For every input. -/
import Derived.Test.YtlfppgdaoijklaaNnOnce
namespace Go.Proofs.Ytlfppgdaoijklaa
open Go.ChangeShapes Go.WideShapes Go.ChangeAt Go.RowKit Go.Deep

set_option maxRecDepth 100000 in
set_option maxHeartbeats 20000000 in
theorem nonceOnce_walk (a0 a1 a2 a3 : Int) (v : Value) (fs : List Nat) (w : World) (h0 : (Lit.int .u32 a0).wf = true) (h1 : (Lit.int .u32 a1).wf = true) (h2 : (Lit.int .u64 a2).wf = true) (h3 : (Lit.int .u64 a3).wf = true) (hv : Us w v fs) : Calls Try.prog 4 #[.int .u32 a0, .int .u32 a1, .int .u64 a2, .int .u64 a3, v] w fun e w' => e = .returned (.bool true) ∧ Below w.heap.size w w' := by
  obtain ⟨B, rfl, hB⟩ := wf_u32 h0
  obtain ⟨C, rfl, hC⟩ := wf_u32 h1
  obtain ⟨F, rfl, hF⟩ := wf_u64 h2
  obtain ⟨G, rfl, hG⟩ := wf_u64 h3
  obtain ⟨ao, cap, rfl⟩ := hv.len
  obtain ⟨n, hn⟩ : ∃ n, n = fs.length := ⟨_, rfl⟩
  rw [← hn] at hv ⊢
  have HN := Hid.mk' hn
  have HV := Hid.mk' hv
  have hl : n ≤ 140737488355328 := by have := hv.2.1; omega
  have HS1 := Hid.mk' (sr_new w B F hB hF)
  have HS2 : Hid (∀ w, Calls Try.prog 7 #[.int .u32 (C : Int), .int .u64 (G : Int)] w fun e w' => ∃ g, e = .returned (ptr g) ∧ Sr w w' g C G) := fun w => sr_new w C G hC hG
  have HBB := Hid.mk' hB
  have HCC := Hid.mk' hC
  have n0 : (n : Int) ≤ 140737488355328 := by omega
  clear hn hv hl h0 h1 h2 h3 hB hC hF hG
  go_enter Try.func4, Try.ntmps4
  go_wp2_with fail
  refine Calls.mono HS1.out ?_
  rintro e w1 ⟨g1, rfl, k1⟩
  go_wp2_with fail
  refine Calls.mono (HS2.out _) ?_
  rintro e w2 ⟨g2, rfl, k2⟩
  have HO0 : Hid (On w w2 w2 g1 g2 B C F G (.slice none 0 0) []) :=
    ⟨k1.then k2.grow, ⟨k2.src, k1.grow.trans k2.grow, Nat.le_trans k1.grow.size k2.new⟩, World.ownsRow_nil _ _ _ _, (fun k hk => by cases hk), by have := k1.lt; have := k2.grow.size; omega, k2.lt, by have := k1.lt; have := k2.new; omega, by have := k1.grow.size; have := k2.grow.size; omega, Nat.le_refl _⟩
  clear k1 k2 HS1 HS2
  go_wp2
  go_loopw [13, 14] (fun rv iv wr => ∃ (i : Nat) (r : Value) (Q : List En), r = rv ∧ i ≤ n ∧ i ≤ 100 ∧ iv = .int .i64 i ∧ On w w2 wr g1 g2 B C (F + i) (G + i) r Q ∧ Jn B C F G i i Q) (fun _ iv _ => n - (intOf iv).toNat)
  case atStart => exact ⟨0, _, [], rfl, Nat.zero_le _, Nat.zero_le _, rfl, HO0.out, Jn.nil⟩
  case round =>
    rename_i rv0
    obtain ⟨i, r, Q, rfl, hi, hi1, rfl, hs, hj⟩ := hrel
    have HO := Hid.mk' hs
    have HJ := Hid.mk' hj
    clear hs hj HO0
    by_cases hlt : i < n ∧ i < 100
    · obtain ⟨hln, hl1⟩ := hlt
      have t1 : (i : Int) < (n : Int) := by omega
      have t2 : (i : Int) < 100 := by omega
      obtain ⟨gb, off, cap', hva, hcap, hgb, hcell⟩ := HV.out.at (by have := HN.out; omega)
      obtain ⟨rfl, -, rfl⟩ : ao = some ⟨gb, off, none⟩ ∧ n = fs.length ∧ cap = cap' := by simpa using hva
      obtain ⟨E, hE⟩ : ∃ E, E = fs.getD i 0 := ⟨_, rfl⟩
      have hec : w.cell? ⟨gb, off + i, none⟩ = some (.int .u32 (E : Int)) := by rw [hE]; exact hcell i (by have := HN.out; omega)
      have hEb : E < 4294967296 := by
        rw [hE, List.getD_eq_getElem?_getD, List.getElem?_eq_getElem (by have := HN.out; omega)]
        exact HV.out.1 _ (List.getElem_mem _)
      have HEB := Hid.mk' hEb
      have HEC : Hid (∀ w', Grow w w' → w'.cell? ⟨gb, off + i, none⟩ = some (.int .u32 (E : Int))) := fun w' k => grow_cell k hec
      have d1 := HEC.out _ HO.out.a.grow
      have hnc : n ≤ cap := by have := HN.out; omega
      clear hva hcell hE hec hgb hcap hEb
      have H3 := Hid.mk' (on_next1 HO.out E)
      go_wp2_with fail
      refine Calls.mono H3.out ?_
      rintro e w3 ⟨rfl, h3, k3⟩
      obtain ⟨X, hX⟩ : ∃ X, X = tldE E B (F + i) := ⟨_, rfl⟩
      rw [← hX]
      obtain ⟨w4, hs4, hb4, k4⟩ := newEn w3 X
      have HS4 := Hid.mk' hs4
      have HB4 := Hid.mk' hb4
      have HO4 := Hid.mk' (h3.then k4)
      have d4 := HEC.out _ (h3.then k4).a.grow
      have H5 := Hid.mk' (on_next2 HO4.out E)
      obtain ⟨gx, hgx⟩ : ∃ gx, gx = w3.heap.size := ⟨_, rfl⟩
      rw [← hgx] at HB4
      have HGX := Hid.mk' hgx
      have HGX3 : Hid (wr.heap.size ≤ gx) := by rw [hgx]; exact k3.size
      have HGO : Hid (w2.heap.size ≤ gx) := by have := h3.gr2; show _ ≤ _; omega
      have HX := Hid.mk' hX
      obtain ⟨c1, hc1⟩ : ∃ c, c = codE (F + i) := ⟨_, rfl⟩
      have HC1 := Hid.mk' hc1
      rw [← hc1]
      clear hs4 hb4 k4 h3 k3 hgx hX hc1 H3 d1
      go_upto_region 7 with (first
        | (refine wpList_runH rfl (exec_allocF rfl (zeroE _)) ?_)
        | (refine wpList_skipH rfl (exec_stF (v := evalE X) rfl rfl rfl HS4.out) ?_)
        | fail)
      rw [← HGX.out]
      go_wp2_with fail
      refine Calls.mono H5.out ?_
      rintro e w5 ⟨rfl, h5, k5⟩
      obtain ⟨Y, hY⟩ : ∃ Y, Y = tldE E C (G + i) := ⟨_, rfl⟩
      rw [← hY]
      obtain ⟨w6, hs6, hb6, k6⟩ := newEn w5 Y
      have HS6 := Hid.mk' hs6
      obtain ⟨gy, hgy⟩ : ∃ gy, gy = w5.heap.size := ⟨_, rfl⟩
      have HGY := Hid.mk' hgy
      have HY6 : Hid (Blk w6 gy 30 (ecells Y)) := by rw [hgy]; exact hb6
      have HX6 := Hid.mk' ((HB4.out.but k5 (fun e => by have := HGO.out; have := HO4.out.l2; omega)).but k6 (fun h => h))
      have HO6 := Hid.mk' (h5.then k6)
      have HY := Hid.mk' hY
      obtain ⟨c2, hc2⟩ : ∃ c, c = codE (G + i) := ⟨_, rfl⟩
      have HC2 := Hid.mk' hc2
      rw [← hc2]
      have HNX : Hid (r.ownBlock ≠ some gx ∧ r.ownBlock ≠ some gy) := by
        refine ⟨fun e => ?_, fun e => ?_⟩
        · have := (World.ownsRow.lt HO.out.r gx e).2
          have := HGX3.out
          omega
        · have := (World.ownsRow.lt HO.out.r gy e).2
          have := HGX3.out
          have := HGX.out
          have := HO4.out.gr2
          have := k5.size
          have := HB4.out.lt
          omega
      have hrs := own_sl HO6.out.r
      obtain ⟨ra, rc, rfl⟩ := hrs
      obtain ⟨m, hm⟩ : ∃ m, m = Q.length := ⟨_, rfl⟩
      have hmb : m ≤ 300 := by have := HJ.out.len; omega
      have HM := Hid.mk' hm
      rw [← hm] at HO6 HNX ⊢
      clear hs6 hb6 k6 h5 k5 hgy hY hc2 H5 HS4 HB4 HO4 HO d4 hm
      go_upto_region 8 with (first
        | (refine wpList_runH rfl (exec_allocF rfl (zeroE _)) ?_)
        | (refine wpList_skipH rfl (exec_stF (v := evalE Y) rfl rfl rfl HS6.out) ?_)
        | fail)
      rw [← HGY.out]
      by_cases hp : F + i < 18446744073709551616
      · have hx0 : X = ⟨E, B, F + i⟩ := by rw [HX.out]; unfold tldE; rw [if_pos hp]
        have hc0 : c1 = 0 := by rw [HC1.out]; unfold codE; rw [if_pos hp]
        have HOK : Hid (En.ok ⟨E, B, F + i⟩) := ⟨HEB.out, HBB.out, hp⟩
        subst hc0
        subst hx0
        clear hp HX HC1
        have HNN := Hid.mk' (nonce_any (w := w6) ⟨E, B, F + i⟩ HOK.out)
        obtain ⟨NX, hNX⟩ : ∃ NX, NX = (u8s (nbs ⟨E, B, F + i⟩)).toArray := ⟨_, rfl⟩
        rw [← hNX] at HNN
        have HNX2 := Hid.mk' hNX
        have HNL : Hid (NX.size = 12) := by rw [hNX]; exact nb12 _
        clear hNX
        go_wp2_with (first
          | (refine wpList_runH rfl (exec_ldE (cs := ⟨E, B, F + i⟩) HX6.out.cells0 rfl rfl) ?_)
          | fail)
        refine Calls.mono HNN.out ?_
        rintro e w7 ⟨rfl, k7⟩
        have HK7 : Hid (Grow w6 w7) := k7
        have HAL : Hid (Grow w7 (w7.alloc (.cells NX 37))) := (But.refl _ w7).alloc _
        have HBL : Hid (Blk (w7.alloc (.cells NX 37)) w7.heap.size 37 (u8s (nbs ⟨E, B, F + i⟩))) := by rw [HNX2.out]; exact Blk.new rfl
        have HR7 : Hid ((w7.alloc (.cells NX 37)).ownsRow 0 37 12 (.slice ra m rc) m (ncs Q)) := by
          have := HO6.out.r
          rw [← HM.out] at this
          exact ownsRow_grow (ownsRow_grow this HK7.out) HAL.out
        clear k7 HNN
        go_upto_region 10 with (first
          | (refine wpList_runH rfl (exec_row1 (v := .agg NX) Try.underlying36 inf12 (by decide) (by decide) rfl rfl HNL.out) ?_)
          | (refine wpList_someH rfl (exec_append (v := .slice ra m rc) (n := m) (xs := ncs Q) (news := u8s (nbs ⟨E, B, F + i⟩)) Try.underlying36 inf12 rfl (by decide) rfl rfl HR7.out rfl (nb12 _) (fun j u hj => HBL.out.cells0 j u hj) (u8s_one _) (by omega) (by decide)) ?_; intro v8 w8 hap)
          | fail)
        have ho8 := HO6.out.app (m := m + 1) ⟨E, B, F + i⟩ (HK7.out.trans HAL.out) (congrArg (· + 1) HM.out) hap
        have HO8 := Hid.mk' ho8
        have HJ8 := Hid.mk' (HJ.out.push1 E HOK.out)
        obtain ⟨hy8, hn8⟩ := On.keep HNX.out.2 hap ((HY6.out.but HK7.out (fun h => h)).but HAL.out (fun h => h))
        have HY8 := Hid.mk' hy8
        obtain ⟨ra8, rc8, rfl⟩ := own_sl ho8.r
        obtain ⟨m8, hm8⟩ : ∃ m8, m8 = (Q ++ [(⟨E, B, F + i⟩ : En)]).length := ⟨_, rfl⟩
        have hmb8 : m8 ≤ 301 := by rw [hm8, List.length_append, List.length_singleton]; have := HM.out; omega
        have HM8 := Hid.mk' hm8
        rw [← hm8] at HO8 ⊢
        clear ho8 hap hy8 hn8 hm8 HOK HNX2 HNL HK7 HAL HBL HR7 HX6 HNX HY6 HO6
        by_cases hq : G + i < 18446744073709551616
        · have hy0 : Y = ⟨E, C, G + i⟩ := by rw [HY.out]; unfold tldE; rw [if_pos hq]
          have hc0 : c2 = 0 := by rw [HC2.out]; unfold codE; rw [if_pos hq]
          subst hc0
          subst hy0
          by_cases hBC : B = C
          · have t3 : ((B : Int) == (C : Int)) = true := by rw [hBC]; exact beq_self_eq_true _
            have t4 : ((B : Int) != (C : Int)) = false := by rw [bne, t3]; rfl
            have t5 : decide ((B : Int) = (C : Int)) = true := decide_eq_true (by rw [hBC])
            have HE : Hid (On w w2 w8 g1 g2 B C (F + (i + 1)) (G + (i + 1)) (.slice ra8 m8 rc8) (Q ++ [⟨E, B, F + i⟩]) ∧ Jn B C F G (i + 1) (i + 1) (Q ++ [⟨E, B, F + i⟩])) := ⟨HO8.out, HJ8.out.skip2⟩
            clear hBC hq HY HC2
            go_wp2
            exact ⟨⟨i + 1, _, (Q ++ [⟨E, B, F + i⟩]), rfl, by omega, by omega, by go_num, HE.out.1, HE.out.2⟩, by simp [intOf]; omega⟩
          · have t3 : ((B : Int) == (C : Int)) = false := by simpa using fun h : (B : Int) = C => hBC (by omega)
            have HOK : Hid (En.ok ⟨E, C, G + i⟩) := ⟨HEB.out, HCC.out, hq⟩
            have HNE : Hid (B ≠ C) := hBC
            clear hBC hq HY HC2
            have HNN := Hid.mk' (nonce_any (w := w8) ⟨E, C, G + i⟩ HOK.out)
            obtain ⟨NX, hNX⟩ : ∃ NX, NX = (u8s (nbs ⟨E, C, G + i⟩)).toArray := ⟨_, rfl⟩
            rw [← hNX] at HNN
            have HNX2 := Hid.mk' hNX
            have HNL : Hid (NX.size = 12) := by rw [hNX]; exact nb12 _
            clear hNX
            go_wp2_with (first
              | (refine wpList_runH rfl (exec_ldE (cs := ⟨E, C, G + i⟩) HY8.out.cells0 rfl rfl) ?_)
              | fail)
            refine Calls.mono HNN.out ?_
            rintro e w17 ⟨rfl, k7⟩
            have HK7 : Hid (Grow w8 w17) := k7
            have HAL : Hid (Grow w17 (w17.alloc (.cells NX 37))) := (But.refl _ w17).alloc _
            have HBL : Hid (Blk (w17.alloc (.cells NX 37)) w17.heap.size 37 (u8s (nbs ⟨E, C, G + i⟩))) := by rw [HNX2.out]; exact Blk.new rfl
            have HR7 : Hid ((w17.alloc (.cells NX 37)).ownsRow 0 37 12 (.slice ra8 m8 rc8) m8 (ncs (Q ++ [⟨E, B, F + i⟩]))) := by
              have := HO8.out.r
              rw [← HM8.out] at this
              exact ownsRow_grow (ownsRow_grow this HK7.out) HAL.out
            clear k7 HNN
            go_wp2_with (first
              | (refine wpList_runH rfl (exec_row1 (v := .agg NX) Try.underlying36 inf12 (by decide) (by decide) rfl rfl HNL.out) ?_)
              | (refine wpList_someH rfl (exec_append (v := .slice ra8 m8 rc8) (n := m8) (xs := ncs (Q ++ [⟨E, B, F + i⟩])) (news := u8s (nbs ⟨E, C, G + i⟩)) Try.underlying36 inf12 rfl (by decide) rfl rfl HR7.out rfl (nb12 _) (fun j u hj => HBL.out.cells0 j u hj) (u8s_one _) (by omega) (by decide)) ?_; intro v18 w18 hap)
              | fail)
            have HE : Hid (On w w2 w18 g1 g2 B C (F + (i + 1)) (G + (i + 1)) v18 ((Q ++ [⟨E, B, F + i⟩]) ++ [⟨E, C, G + i⟩]) ∧ Jn B C F G (i + 1) (i + 1) ((Q ++ [⟨E, B, F + i⟩]) ++ [⟨E, C, G + i⟩])) :=
              ⟨HO8.out.app (m := m8 + 1) ⟨E, C, G + i⟩ (HK7.out.trans HAL.out) (congrArg (· + 1) HM8.out) hap, HJ8.out.push2 E HOK.out HNE.out⟩
            exact ⟨⟨i + 1, v18, (Q ++ [⟨E, B, F + i⟩]) ++ [⟨E, C, G + i⟩], rfl, by omega, by omega, by go_num, HE.out.1, HE.out.2⟩, by simp [intOf]; omega⟩
        · have hc0 : c2 = 13 := by rw [HC2.out]; unfold codE; rw [if_neg hq]
          subst hc0
          have HE : Hid (On w w2 w8 g1 g2 B C (F + (i + 1)) (G + (i + 1)) (.slice ra8 m8 rc8) (Q ++ [⟨E, B, F + i⟩]) ∧ Jn B C F G (i + 1) (i + 1) (Q ++ [⟨E, B, F + i⟩])) := ⟨HO8.out, HJ8.out.skip2⟩
          clear hq HY HC2
          go_wp2
          exact ⟨⟨i + 1, _, (Q ++ [⟨E, B, F + i⟩]), rfl, by omega, by omega, by go_num, HE.out.1, HE.out.2⟩, by simp [intOf]; omega⟩
      · have hc0 : c1 = 13 := by rw [HC1.out]; unfold codE; rw [if_neg hp]
        subst hc0
        have HJ8 := Hid.mk' HJ.out.skip1
        clear hp HX HC1 HX6 HNX
        go_upto_region 10 with fail
        by_cases hq : G + i < 18446744073709551616
        · have hy0 : Y = ⟨E, C, G + i⟩ := by rw [HY.out]; unfold tldE; rw [if_pos hq]
          have hc0 : c2 = 0 := by rw [HC2.out]; unfold codE; rw [if_pos hq]
          subst hc0
          subst hy0
          by_cases hBC : B = C
          · have t3 : ((B : Int) == (C : Int)) = true := by rw [hBC]; exact beq_self_eq_true _
            have t4 : ((B : Int) != (C : Int)) = false := by rw [bne, t3]; rfl
            have t5 : decide ((B : Int) = (C : Int)) = true := decide_eq_true (by rw [hBC])
            have HE : Hid (On w w2 w6 g1 g2 B C (F + (i + 1)) (G + (i + 1)) (.slice ra m rc) Q ∧ Jn B C F G (i + 1) (i + 1) Q) := ⟨HO6.out, HJ8.out.skip2⟩
            clear hBC hq HY HC2
            go_wp2
            exact ⟨⟨i + 1, _, Q, rfl, by omega, by omega, by go_num, HE.out.1, HE.out.2⟩, by simp [intOf]; omega⟩
          · have t3 : ((B : Int) == (C : Int)) = false := by simpa using fun h : (B : Int) = C => hBC (by omega)
            have HOK : Hid (En.ok ⟨E, C, G + i⟩) := ⟨HEB.out, HCC.out, hq⟩
            have HNE : Hid (B ≠ C) := hBC
            clear hBC hq HY HC2
            have HNN := Hid.mk' (nonce_any (w := w6) ⟨E, C, G + i⟩ HOK.out)
            obtain ⟨NX, hNX⟩ : ∃ NX, NX = (u8s (nbs ⟨E, C, G + i⟩)).toArray := ⟨_, rfl⟩
            rw [← hNX] at HNN
            have HNX2 := Hid.mk' hNX
            have HNL : Hid (NX.size = 12) := by rw [hNX]; exact nb12 _
            clear hNX
            go_wp2_with (first
              | (refine wpList_runH rfl (exec_ldE (cs := ⟨E, C, G + i⟩) HY6.out.cells0 rfl rfl) ?_)
              | fail)
            refine Calls.mono HNN.out ?_
            rintro e w17 ⟨rfl, k7⟩
            have HK7 : Hid (Grow w6 w17) := k7
            have HAL : Hid (Grow w17 (w17.alloc (.cells NX 37))) := (But.refl _ w17).alloc _
            have HBL : Hid (Blk (w17.alloc (.cells NX 37)) w17.heap.size 37 (u8s (nbs ⟨E, C, G + i⟩))) := by rw [HNX2.out]; exact Blk.new rfl
            have HR7 : Hid ((w17.alloc (.cells NX 37)).ownsRow 0 37 12 (.slice ra m rc) m (ncs Q)) := by
              have := HO6.out.r
              rw [← HM.out] at this
              exact ownsRow_grow (ownsRow_grow this HK7.out) HAL.out
            clear k7 HNN
            go_wp2_with (first
              | (refine wpList_runH rfl (exec_row1 (v := .agg NX) Try.underlying36 inf12 (by decide) (by decide) rfl rfl HNL.out) ?_)
              | (refine wpList_someH rfl (exec_append (v := .slice ra m rc) (n := m) (xs := ncs Q) (news := u8s (nbs ⟨E, C, G + i⟩)) Try.underlying36 inf12 rfl (by decide) rfl rfl HR7.out rfl (nb12 _) (fun j u hj => HBL.out.cells0 j u hj) (u8s_one _) (by omega) (by decide)) ?_; intro v18 w18 hap)
              | fail)
            have HE : Hid (On w w2 w18 g1 g2 B C (F + (i + 1)) (G + (i + 1)) v18 (Q ++ [⟨E, C, G + i⟩]) ∧ Jn B C F G (i + 1) (i + 1) (Q ++ [⟨E, C, G + i⟩])) :=
              ⟨HO6.out.app (m := m + 1) ⟨E, C, G + i⟩ (HK7.out.trans HAL.out) (congrArg (· + 1) HM.out) hap, HJ8.out.push2 E HOK.out HNE.out⟩
            exact ⟨⟨i + 1, v18, Q ++ [⟨E, C, G + i⟩], rfl, by omega, by omega, by go_num, HE.out.1, HE.out.2⟩, by simp [intOf]; omega⟩
        · have hc0 : c2 = 13 := by rw [HC2.out]; unfold codE; rw [if_neg hq]
          subst hc0
          have HE : Hid (On w w2 w6 g1 g2 B C (F + (i + 1)) (G + (i + 1)) (.slice ra m rc) Q ∧ Jn B C F G (i + 1) (i + 1) Q) := ⟨HO6.out, HJ8.out.skip2⟩
          clear hq HY HC2
          go_wp2
          exact ⟨⟨i + 1, _, Q, rfl, by omega, by omega, by go_num, HE.out.1, HE.out.2⟩, by simp [intOf]; omega⟩
    · have hrs := own_sl HO.out.r
      obtain ⟨ra, rc, rfl⟩ := hrs
      obtain ⟨m, hm⟩ : ∃ m, m = Q.length := ⟨_, rfl⟩
      have hmb : m ≤ 300 := by have := HJ.out.len; omega
      have HM := Hid.mk' hm
      rw [← hm] at HO ⊢
      clear hm
      by_cases hln : i < n
      · have t1 : (i : Int) < (n : Int) := by omega
        have t2 : ¬ (i : Int) < 100 := by omega
        clear hlt hln hi hi1
        obtain ⟨wS, hwS⟩ : ∃ wS, wS = wr := ⟨_, rfl⟩
        rw [← hwS] at HO ⊢
        clear hwS wr
        go_wp2
        go_loopw [19] (fun iv wq => ∃ a : Nat, a ≤ m ∧ iv = .int .i64 a ∧ Grow wS wq) (fun iv _ => m - (intOf iv).toNat)
        case atStart => exact ⟨0, Nat.zero_le _, rfl, But.refl _ _⟩
        case round =>
          obtain ⟨a, ha, rfl, ka⟩ := hrel
          have HKA := Hid.mk' ka
          clear ka
          by_cases hla : a < m
          · have t3 : (a : Int) < (m : Int) := by omega
            obtain ⟨xa, hxa⟩ : ∃ x, Q[a]? = some x := ⟨_, List.getElem?_eq_getElem (by have := HM.out; omega)⟩
            have HXA := Hid.mk' hxa
            clear hxa
            go_wp2
            go_loopw [20] (fun iv wk => ∃ k : Nat, k ≤ a ∧ iv = .int .i64 k ∧ Grow wS wk) (fun iv _ => a - (intOf iv).toNat)
            case atStart => exact ⟨0, Nat.zero_le _, rfl, HKA.out⟩
            case round =>
              obtain ⟨k, hk, rfl, kk⟩ := hrel
              have HKK := Hid.mk' kk
              clear kk
              by_cases hlk : k < a
              · have t4 : (k : Int) < (a : Int) := by omega
                obtain ⟨xk, hxk⟩ : ∃ x, Q[k]? = some x := ⟨_, List.getElem?_eq_getElem (by have := HM.out; omega)⟩
                have hap := HJ.out.apart hxk HXA.out hlk
                have HEQ : Hid (∀ w, (Op.equalIn 10000 37 (.agg (u8s (nbs xa)).toArray) (.agg (u8s (nbs xk)).toArray)).run Try.prog w = .ok false w) := fun w => by rw [equalNn, decide_eq_false hap]
                have HXK := Hid.mk' hxk
                obtain ⟨gb, rc', hva, hcap, hcell⟩ := HO.out.cells (by have := HM.out; omega)
                obtain ⟨rfl, -, rfl⟩ : ra = some ⟨gb, 0, none⟩ ∧ m = Q.length ∧ rc = rc' := by simpa using hva
                have HCL := Hid.mk' hcell
                have hmc : m ≤ rc := by have := HM.out; omega
                have t5 : (a : Int) < (m : Int) := by omega
                have t6 : (k : Int) < (m : Int) := by omega
                clear hxk hap hva hcap hcell
                go_upto_region 18 with fail
                refine region_chain [] [0, 1, 2, 3, 4, 5, 6, 7, 8] (Grow wr) (Grow wr) (by kernel_rfl) (by kernel_rfl) (fun _ _ h k => h.trans k) (fun _ h => h) ((But.refl _ wr).drew) ?_
                intro ι hne Y hY
                iterate 3 (refine still_step rfl (fun K hK => ?_); go_simp; refine hK _ ?_; clear hK K)
                refine still_val rfl (.agg (u8s (nbs xa)).toArray) rfl (fun q => exec_ldF (cs := u8s (nbs xa)) Try.underlying37 rfl (by rw [i12n, nb12]) (HCL.out a xa HXA.out _ (HKK.out.trans (hY q))) rfl rfl) ?_
                intro K hK; go_simp; refine hK _ ?_; clear hK K
                iterate 3 (refine still_step rfl (fun K hK => ?_); go_simp; refine hK _ ?_; clear hK K)
                refine still_val rfl (.agg (u8s (nbs xk)).toArray) rfl (fun q => exec_ldF (cs := u8s (nbs xk)) Try.underlying37 rfl (by rw [i12n, nb12]) (HCL.out k xk HXK.out _ (HKK.out.trans (hY q))) rfl rfl) ?_
                intro K hK; go_simp; refine hK _ ?_; clear hK K
                refine still_val rfl (.bool false) rfl (fun q => exec_eqE (b := false) rfl rfl rfl g12 (HEQ.out _)) ?_
                intro K hK; go_simp; refine hK _ ?_; clear hK K
                refine still_nil ?_
                clear hY hne Y ι
                intro w8 hw8
                have HK8 := Hid.mk' (HKK.out.trans hw8)
                clear hw8
                go_wp2
                exact ⟨⟨k + 1, by omega, by go_num, HK8.out⟩, by simp [intOf]; omega⟩
              · have t4 : ¬ (k : Int) < (a : Int) := by omega
                go_wp2
                exact ⟨⟨a + 1, by omega, by go_num, HKK.out⟩, by simp [intOf]; omega⟩
          · have t3 : ¬ (a : Int) < (m : Int) := by omega
            have H6 := Hid.mk' (nnawake_any wr)
            have HG := Hid.mk' (HO.out.a.grow.trans HKA.out)
            go_wp2_with fail
            refine Calls.mono H6.out ?_
            rintro e w9 ⟨rfl, k9⟩
            have HG9 := Hid.mk' (HG.out.trans k9)
            clear k9
            go_wp2
            go_ret
            exact ⟨rfl, HG9.out.below (Nat.le_refl _) (fun _ _ h => h)⟩
      · have t1 : ¬ (i : Int) < (n : Int) := by omega
        clear hlt hln hi hi1
        obtain ⟨wS, hwS⟩ : ∃ wS, wS = wr := ⟨_, rfl⟩
        rw [← hwS] at HO ⊢
        clear hwS wr
        go_wp2
        go_loopw [19] (fun iv wq => ∃ a : Nat, a ≤ m ∧ iv = .int .i64 a ∧ Grow wS wq) (fun iv _ => m - (intOf iv).toNat)
        case atStart => exact ⟨0, Nat.zero_le _, rfl, But.refl _ _⟩
        case round =>
          obtain ⟨a, ha, rfl, ka⟩ := hrel
          have HKA := Hid.mk' ka
          clear ka
          by_cases hla : a < m
          · have t3 : (a : Int) < (m : Int) := by omega
            obtain ⟨xa, hxa⟩ : ∃ x, Q[a]? = some x := ⟨_, List.getElem?_eq_getElem (by have := HM.out; omega)⟩
            have HXA := Hid.mk' hxa
            clear hxa
            go_wp2
            go_loopw [20] (fun iv wk => ∃ k : Nat, k ≤ a ∧ iv = .int .i64 k ∧ Grow wS wk) (fun iv _ => a - (intOf iv).toNat)
            case atStart => exact ⟨0, Nat.zero_le _, rfl, HKA.out⟩
            case round =>
              obtain ⟨k, hk, rfl, kk⟩ := hrel
              have HKK := Hid.mk' kk
              clear kk
              by_cases hlk : k < a
              · have t4 : (k : Int) < (a : Int) := by omega
                obtain ⟨xk, hxk⟩ : ∃ x, Q[k]? = some x := ⟨_, List.getElem?_eq_getElem (by have := HM.out; omega)⟩
                have hap := HJ.out.apart hxk HXA.out hlk
                have HEQ : Hid (∀ w, (Op.equalIn 10000 37 (.agg (u8s (nbs xa)).toArray) (.agg (u8s (nbs xk)).toArray)).run Try.prog w = .ok false w) := fun w => by rw [equalNn, decide_eq_false hap]
                have HXK := Hid.mk' hxk
                obtain ⟨gb, rc', hva, hcap, hcell⟩ := HO.out.cells (by have := HM.out; omega)
                obtain ⟨rfl, -, rfl⟩ : ra = some ⟨gb, 0, none⟩ ∧ m = Q.length ∧ rc = rc' := by simpa using hva
                have HCL := Hid.mk' hcell
                have hmc : m ≤ rc := by have := HM.out; omega
                have t5 : (a : Int) < (m : Int) := by omega
                have t6 : (k : Int) < (m : Int) := by omega
                clear hxk hap hva hcap hcell
                go_upto_region 18 with fail
                refine region_chain [] [0, 1, 2, 3, 4, 5, 6, 7, 8] (Grow wr) (Grow wr) (by kernel_rfl) (by kernel_rfl) (fun _ _ h k => h.trans k) (fun _ h => h) ((But.refl _ wr).drew) ?_
                intro ι hne Y hY
                iterate 3 (refine still_step rfl (fun K hK => ?_); go_simp; refine hK _ ?_; clear hK K)
                refine still_val rfl (.agg (u8s (nbs xa)).toArray) rfl (fun q => exec_ldF (cs := u8s (nbs xa)) Try.underlying37 rfl (by rw [i12n, nb12]) (HCL.out a xa HXA.out _ (HKK.out.trans (hY q))) rfl rfl) ?_
                intro K hK; go_simp; refine hK _ ?_; clear hK K
                iterate 3 (refine still_step rfl (fun K hK => ?_); go_simp; refine hK _ ?_; clear hK K)
                refine still_val rfl (.agg (u8s (nbs xk)).toArray) rfl (fun q => exec_ldF (cs := u8s (nbs xk)) Try.underlying37 rfl (by rw [i12n, nb12]) (HCL.out k xk HXK.out _ (HKK.out.trans (hY q))) rfl rfl) ?_
                intro K hK; go_simp; refine hK _ ?_; clear hK K
                refine still_val rfl (.bool false) rfl (fun q => exec_eqE (b := false) rfl rfl rfl g12 (HEQ.out _)) ?_
                intro K hK; go_simp; refine hK _ ?_; clear hK K
                refine still_nil ?_
                clear hY hne Y ι
                intro w8 hw8
                have HK8 := Hid.mk' (HKK.out.trans hw8)
                clear hw8
                go_wp2
                exact ⟨⟨k + 1, by omega, by go_num, HK8.out⟩, by simp [intOf]; omega⟩
              · have t4 : ¬ (k : Int) < (a : Int) := by omega
                go_wp2
                exact ⟨⟨a + 1, by omega, by go_num, HKK.out⟩, by simp [intOf]; omega⟩
          · have t3 : ¬ (a : Int) < (m : Int) := by omega
            have H6 := Hid.mk' (nnawake_any wr)
            have HG := Hid.mk' (HO.out.a.grow.trans HKA.out)
            go_wp2_with fail
            refine Calls.mono H6.out ?_
            rintro e w9 ⟨rfl, k9⟩
            have HG9 := Hid.mk' (HG.out.trans k9)
            clear k9
            go_wp2
            go_ret
            exact ⟨rfl, HG9.out.below (Nat.le_refl _) (fun _ _ h => h)⟩
set_option maxRecDepth 100000 in
theorem nonceOnce_lifted (os : Os) (started : os.Started) (H : Type) (enc : TypeId × Value → H) :
    ReturnsInHanded {} Try.checked os 4 .any (Rows.nonceOnceSpec.pre6 enc Try.prog Try.f4 Rows.nonceOnceRow.domain false) (Rows.nonceOnceSpec.post enc Try.prog Try.f4 false true false false) := by
  refine returnsInHanded_of_change_sized (C := Try.checked) (by kernel_rfl) started (by kernel_rfl) Try.func4
    (ChangeSpec.witness6 (enc := enc) (C := Try.checked) false ⟨#[], #[.int .u32 0, .int .u32 0, .int .u64 0, .int .u64 0, .slice none 0 0], []⟩ 8 (by kernel_rfl) (by kernel_rfl) (by kernel_rfl) (by kernel_rfl)) ?_
  intro W base args ds gs before hval0 hW hcnd hsz0 _
  have hsz : (DataW.weightsEach Try.prog (Try.f4.params.toList ++ Rows.nonceOnceSpec.plain.varTypes Try.prog) (ds ++ gs)).all (· ≤ reachBytes) = true := hsz0
  clear hsz0
  have hval : ∀ (j : Nat) t v, Try.f4.params[j]? = some t → args[j]? = some v → Value.okWide Try.prog W .any base t v := hval0
  have hW' := hW
  obtain ⟨p, q, hA0, hV, rfl, hfz, hnd⟩ := hW
  have hA : DataW.TrodAll enc Try.prog W 0 (fun _ => true) true Try.f4.params.toList args.toList ds p := hA0
  rw [Try.params4] at hA hval hsz
  obtain ⟨v0, vs0, d0, ds0, p0, q0, hargs, rfl, rfl, h0, r0⟩ := trodAll_cons hA
  obtain ⟨v1, vs1, d1, ds1, p1, q1, rfl, rfl, rfl, h1, r1⟩ := trodAll_cons r0
  obtain ⟨v2, vs2, d2, ds2, p2, q2, rfl, rfl, rfl, h2, r2⟩ := trodAll_cons r1
  obtain ⟨v3, vs3, d3, ds3, p3, q3, rfl, rfl, rfl, h3, r3⟩ := trodAll_cons r2
  obtain ⟨v4, vs4, d4, ds4, p4, q4, rfl, rfl, rfl, h4, r4⟩ := trodAll_cons r3
  obtain ⟨rfl, rfl, rfl⟩ := trodAll_nil r4
  obtain rfl : args = #[v0, v1, v2, v3, v4] := by cases args; simp_all
  obtain ⟨rfl, rfl⟩ := trodVars_none hV
  obtain ⟨a0, rfl, rfl, rfl, w0⟩ := open_int Try.underlying22 (hval 0 22 v0 rfl rfl) h0
  obtain ⟨a1, rfl, rfl, rfl, w1⟩ := open_int Try.underlying22 (hval 1 22 v1 rfl rfl) h1
  obtain ⟨a2, rfl, rfl, rfl, w2⟩ := open_int Try.underlying23 (hval 2 23 v2 rfl rfl) h2
  obtain ⟨a3, rfl, rfl, rfl, w3⟩ := open_int Try.underlying23 (hval 3 23 v3 rfl rfl) h3
  have lt4 : ∀ x ∈ p4, x.block < W.heap.size := by obtain ⟨m, hm⟩ := h4; exact DataW.trod_lt m _ _ _ hm
  obtain ⟨z4, w4⟩ := view_u32s Try.underlying24 Try.underlying22 (by kernel_rfl) (by kernel_rfl) (hval 4 24 v4 rfl rfl) h4 lt4 hsz (j := 4) rfl rfl
  clear hA0 hval0
  refine (nonceOnce_walk a0 a1 a2 a3 v4 z4 W w0 w1 w2 w3 w4).mono fun e W' ⟨he, bel⟩ => ?_
  subst he
  exact ⟨_, rfl, _, _, _, [], _, [], hW', trodAll_mk1 (shut_bool Try.underlying4 _), (trodAll_cons_mk (shut_int Try.underlying22 w0) (trodAll_cons_mk (shut_int Try.underlying22 w1) (trodAll_cons_mk (shut_int Try.underlying23 w2) (trodAll_cons_mk (shut_int Try.underlying23 w3) (trodAll_cons_mk (Below.trod (by kernel_rfl) (by kernel_rfl) (of_decide_eq_true (by kernel_rfl)) h4 bel lt4) trodAll_mk0))))), rfl, bel.frame _, fun h => by cases h⟩

theorem nonceOnce_holds : Rows.NonceOnceSaid :=
  OpenClaim.holds_of_wide 4 Try.f4 rfl rfl rfl rfl rfl rfl rfl ⟨rfl, rfl, rfl, rfl, rfl⟩ rfl rfl rfl rfl rfl (by kernel_rfl) Try.func4 (by kernel_rfl)
    (of_decide_eq_true (by kernel_rfl)) (by unfold Func.isWrapper; first | (rw [if_pos (by decide +kernel)]; kernel_rfl) | (rw [if_neg (by decide +kernel)]; exact ⟨rfl, rfl⟩))
    (fun os started H enc _ => nonceOnce_lifted os started H enc)
#print axioms nonceOnce_holds
end Go.Proofs.Ytlfppgdaoijklaa
