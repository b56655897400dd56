/- RefNew, RefKeys, Guards, Grows, Makes, AesComp, GcmMath, RefGcm, RefTurn, RefTag, RefSeal. -/
import Derived.Test.YthmjdebnjcopnaaAllE
import Derived.Test.YthmjdebnjcopnaaAllA
import Derived.Test.YthmjdebnjcopnaaAllB
import Derived.Laws.MakeOwn
/- The reference's New. -/
namespace Go.Proofs.Ythmjdebnjcopnaa
open Go.RowKit

set_option maxRecDepth 100000 in
set_option maxHeartbeats 8000000 in
theorem rnew_own {w : World} {v : Value} {key : List B8} (hv : Bs w v (nts key)) (hl : key.length = 16 ∨ key.length = 32) :
    Calls Try.prog 10 #[v] w fun e w' => ∃ vW, e = .returned (.tuple #[.agg (keyV vW).toArray, .bool true]) ∧ (Wr w' vW (words key) ∧ ∀ j, vW.ownBlock = some j → w.heap.size ≤ j) ∧ But (fun _ => False) w w' := by
  have hz : ∀ w : World, (zeroValue 31).run Try.prog w = .ok (.agg zeroKey.toArray) w := fun _ => by kernel_rfl
  have hz2 : ∀ w : World, (zeroValue 29).run Try.prog w = .ok (.agg (u8s (List.replicate 256 0)).toArray) w := fun _ => by kernel_rfl
  obtain ⟨Z, hZ⟩ : ∃ Z, Z = zeroKey.toArray := ⟨_, rfl⟩
  obtain ⟨Y, hY⟩ : ∃ Y, Y = (u8s (List.replicate 256 0)).toArray := ⟨_, rfl⟩
  rw [← hZ] at hz
  rw [← hY] at hz2
  have HZ := Hid.mk' hZ
  have HY := Hid.mk' hY
  have HV := Hid.mk' hv
  obtain ⟨n, hn⟩ : ∃ n, n = key.length := ⟨_, rfl⟩
  obtain ⟨-, -, ⟨hnil, -⟩ | ⟨-, bb, off, cap, rfl, hcap, hbb, -⟩⟩ := hv
  · exfalso
    have := congrArg List.length hnil
    rw [nts_len, ← hn] at this
    simp at this
    omega
  rw [nts_len, ← hn] at HV ⊢
  rw [← hn] at hl
  have HN := Hid.mk' hn
  clear hZ hY hn hcap
  have HLL := Hid.mk' hl
  have hn32 : n ≤ 32 := by omega
  by_cases h16 : n = 16
  case' pos =>
    have e1 : ((n : Int) != 16) = false := by rw [h16]; rfl
    clear h16 hl
  case' neg =>
    have e1 : ((n : Int) != 16) = true := by simp; omega
    have e2 : ((n : Int) != 32) = false := by simp; omega
    clear h16 hl
  all_goals
    go_enter Try.func10, Try.ntmps10
    go_wp2_with fail
    obtain ⟨g, hg⟩ : ∃ g, g = w.heap.size := ⟨_, rfl⟩
    have HR0 : Hid (Blk ((w.alloc (.cells Z 31)).alloc (.cells Z 31)) g 31 zeroKey) := by
      rw [HZ.out]; exact (Blk.new hg.symm).but ((But.refl (fun _ => False) _).alloc _) (fun h => h)
    have HK0 : Hid (Blk ((w.alloc (.cells Z 31)).alloc (.cells Z 31)) (g + 1) 31 zeroKey) := by
      rw [HZ.out]; exact Blk.new (by simp [hg])
    have HBT0 : Hid (But (fun _ => False) w ((w.alloc (.cells Z 31)).alloc (.cells Z 31))) := ((But.refl _ w).alloc _).alloc _
    rw [← hg]
    generalize (w.alloc (.cells Z 31)).alloc (.cells Z 31) = W0 at *
    have HG := Hid.mk' hg
    clear hg hz HZ
    refine Calls.mono (rboxes_any W0) ?_
    rintro e w1 ⟨rfl, hbut1⟩
    have HR1 := Hid.mk' (HR0.out.but hbut1 (fun h => h))
    have HK1 := Hid.mk' (HK0.out.but hbut1 (fun h => h))
    have HBT1 := Hid.mk' (HBT0.out.trans hbut1)
    clear HR0 HK0 HBT0 hbut1
    obtain ⟨X, hX⟩ : ∃ X, X = nts allBx := ⟨_, rfl⟩
    obtain ⟨V, hV⟩ : ∃ V, V = nts allBk := ⟨_, rfl⟩
    have HXL : Hid (X.length = 256) := by show _ = _; rw [hX, nts_len, allBx_len]
    have HVL : Hid (V.length = 256) := by show _ = _; rw [hV, nts_len, allBk_len]
    rw [← hX, ← hV]
    have HX := Hid.mk' hX
    have HVE := Hid.mk' hV
    clear hX hV
    obtain ⟨gb, hgb⟩ : ∃ gb, gb = w1.heap.size := ⟨_, rfl⟩
    have HGB : Hid (g + 1 < gb) := by show _ < _; rw [hgb]; exact HK1.out.lt
    have H5 : Hid (Blk ((w1.alloc (.cells Y 29)).alloc (.cells Y 29)) w1.heap.size 29 (u8s (List.replicate 256 0))) := by
      rw [HY.out]; exact (Blk.new rfl).but ((But.refl (fun _ => False) _).alloc _) (fun h => h)
    have H6 : Hid (Blk ((w1.alloc (.cells Y 29)).alloc (.cells Y 29)) (w1.heap.size + 1) 29 (u8s (List.replicate 256 0))) := by
      rw [HY.out]; exact Blk.new (by simp)
    have HK2 : Hid (Blk ((w1.alloc (.cells Y 29)).alloc (.cells Y 29)) (g + 1) 31 zeroKey) := (HK1.out.but ((But.refl (fun _ => False) _).alloc _) (fun h => h)).but ((But.refl (fun _ => False) _).alloc _) (fun h => h)
    have HR2 : Hid (Blk ((w1.alloc (.cells Y 29)).alloc (.cells Y 29)) g 31 zeroKey) := (HR1.out.but ((But.refl (fun _ => False) _).alloc _) (fun h => h)).but ((But.refl (fun _ => False) _).alloc _) (fun h => h)
    have HBT2 : Hid (But (fun _ => False) w ((w1.alloc (.cells Y 29)).alloc (.cells Y 29))) := (HBT1.out.alloc _).alloc _
    have HQ : Hid (w1.heap.size = gb) := hgb.symm
    clear hgb HR1 HK1 HBT1
    have hq1 : Int.tdiv (n : Int) 4 = ((n / 4 : Nat) : Int) := by rw [Int.tdiv_eq_ediv_of_nonneg (by omega)]; omega
    have hq2 : (n : Int) / 4 = ((n / 4 : Nat) : Int) := by omega
    have HM4 : Hid (4 * (n / 4) = n ∧ (n / 4 = 4 ∨ n / 4 = 8)) := by show _ ∧ _; have := HLL.out; omega
    generalize n / 4 = m at *
    go_wp2_with (first
      | (refine wpList_store_u8s i256s rfl _ _ rfl w1.heap.size X HXL.out rfl (by exact rfl) _ (by simp [u8s]) H5.out ?_; intro w2 hb2 hbut2; have H62 := Hid.mk' (H6.out.but hbut2 (show ¬ (w1.heap.size + 1 = w1.heap.size) by omega)); have HK3 := Hid.mk' (HK2.out.but hbut2 (show ¬ (g + 1 = w1.heap.size) by have := HQ.out; have := HGB.out; omega)))
      | (refine wpList_store_u8s i256s rfl _ _ rfl (w1.heap.size + 1) V HVL.out rfl (by exact rfl) _ (by simp [u8s]) H62.out ?_; intro w3 hb3 hbut3; have HX3 := Hid.mk' (hb2.but hbut3 (show ¬ (w1.heap.size = w1.heap.size + 1) by omega)); have HK4 := Hid.mk' (HK3.out.but hbut3 (show ¬ (g + 1 = w1.heap.size + 1) by have := HQ.out; have := HGB.out; omega)))
      | (refine wpList_load_u8s Try.underlying29 i256s rfl _ rfl w1.heap.size X HXL.out rfl HX3.out ?_)
      | (refine wpList_store_at rfl _ _ _ rfl (g + 1) 1 (u8s X) rfl (by exact rfl) 31 [.slice none 0 0] (u8s (List.replicate 256 0)) (u8s (List.replicate 256 0)) HK4.out rfl (by simp [u8s, HXL.out]) (by rw [i256s]; simp [u8s, HXL.out]) (u8s_one X) ?_; intro w4 hb4 hbut4; have HV4 := Hid.mk' (hb3.but hbut4 (show ¬ (w1.heap.size + 1 = g + 1) by have := HQ.out; have := HGB.out; omega)))
      | (refine wpList_load_u8s Try.underlying29 i256s rfl _ rfl (w1.heap.size + 1) V HVL.out rfl HV4.out ?_)
      | (refine wpList_store_at rfl _ _ _ rfl (g + 1) 257 (u8s V) rfl (by exact rfl) 31 ([.slice none 0 0] ++ u8s X) (u8s (List.replicate 256 0)) [] (by rw [List.append_nil]; exact hb4) (by simp [u8s, HXL.out]) (by simp [u8s, HVL.out]) (by rw [i256s]; simp [u8s, HVL.out]) (u8s_one V) ?_; intro w5 hb5 hbut5)
      | fail)
    have HI5 : Hid (NewI w g gb (.slice none 0 0) [] w5) := by
      have hq := HQ.out
      have hgb := HGB.out
      rw [hq] at hb2 hbut2 hb3 hbut3 HX3
      refine ⟨?_, ?_, ?_, World.ownsRow_nil _ _ _ _, ?_, ?_⟩
      · exact (((HR2.out.but hbut2 (show ¬ (g = gb) by omega)).but hbut3 (show ¬ (g = gb + 1) by omega)).but hbut4 (show ¬ (g = g + 1) by omega)).but hbut5 (show ¬ (g = g + 1) by omega)
      · have h := hb5
        rw [List.append_nil, HX.out, HVE.out] at h
        exact h
      · have h := (HX3.out.but hbut4 (show ¬ (gb = g + 1) by omega)).but hbut5 (show ¬ (gb = g + 1) by omega)
        rw [HX.out] at h; exact h
      · have h1 : gb + 2 ≤ ((w1.alloc (.cells Y 29)).alloc (.cells Y 29)).heap.size := by simp; omega
        have h2 := hbut2.size
        have h3 := hbut3.size
        have h4 := hbut4.size
        have h5 := hbut5.size
        omega
      · have hg := HG.out
        exact (((HBT2.out.then hbut2 (fun i hi e => by omega)).then hbut3 (fun i hi e => by omega)).then hbut4 (fun i hi e => by omega)).then hbut5 (fun i hi e => by omega)
    rw [HQ.out]
    generalize Value.tuple #[Value.agg (u8s X).toArray, Value.agg (u8s V).toArray] = T1
    generalize (u8s X).toArray = XA
    generalize (u8s V).toArray = VA
    clear hb2 hbut2 hb3 hbut3 hb4 hbut4 hb5 hbut5 H5 H6 H62 HK2 HK3 HK4 HR2 HX3 HV4 HBT2 HQ HY hz2 HX HVE HXL HVL
    go_loopw [8] (fun i wr => ∃ (k : Nat) (vW : Value), k ≤ m ∧ i = .int .i64 k ∧ NewI w g gb vW ((List.range k).map (wordOf key)) wr) (fun i _ => m - (intOf i).toNat)
    case atStart => exact ⟨0, .slice none 0 0, by omega, rfl, HI5.out⟩
    case round =>
      obtain ⟨k, vW, hk, rfl, hI⟩ := hrel
      have HI := Hid.mk' hI
      clear hI HI5
      have hm8 := HM4.out
      by_cases hlt : k < m
      · have hki : (k : Int) < (m : Int) := by omega
        clear hm8
        obtain ⟨q0, hq0⟩ : ∃ q, q = 4 * k := ⟨_, rfl⟩
        obtain ⟨q1, hq1'⟩ : ∃ q, q = q0 + 1 := ⟨_, rfl⟩
        obtain ⟨q2, hq2'⟩ : ∃ q, q = q0 + 2 := ⟨_, rfl⟩
        obtain ⟨q3, hq3'⟩ : ∃ q, q = q0 + 3 := ⟨_, rfl⟩
        have hm8 := HM4.out
        have w0 : IntKind.i64.wrap (4 * (k : Int)) = (q0 : Int) := by rw [wrap_mid _ (by omega) (by omega)]; omega
        have w1' : IntKind.i64.wrap ((q0 : Int) + 1) = (q1 : Int) := by rw [wrap_mid _ (by omega) (by omega)]; omega
        have w2' : IntKind.i64.wrap ((q0 : Int) + 2) = (q2 : Int) := by rw [wrap_mid _ (by omega) (by omega)]; omega
        have w3' : IntKind.i64.wrap ((q0 : Int) + 3) = (q3 : Int) := by rw [wrap_mid _ (by omega) (by omega)]; omega
        have b0 : (q0 : Int) < (n : Int) := by omega
        have b1 : (q1 : Int) < (n : Int) := by omega
        have b2 : (q2 : Int) < (n : Int) := by omega
        have b3 : (q3 : Int) < (n : Int) := by omega
        have HQQ : Hid (q0 = 4 * k ∧ q1 = 4 * k + 1 ∧ q2 = 4 * k + 2 ∧ q3 = 4 * k + 3 ∧ q3 < key.length) := by rw [← HN.out]; show _ ∧ _ ; omega
        clear hm8 hq0 hq1' hq2' hq3'
        obtain ⟨x0, hx0⟩ : ∃ x, x = at8 key q0 := ⟨_, rfl⟩
        obtain ⟨x1, hx1⟩ : ∃ x, x = at8 key q1 := ⟨_, rfl⟩
        obtain ⟨x2, hx2⟩ : ∃ x, x = at8 key q2 := ⟨_, rfl⟩
        obtain ⟨x3, hx3⟩ : ∃ x, x = at8 key q3 := ⟨_, rfl⟩
        have HXX : Hid (x0 = at8 key q0 ∧ x1 = at8 key q1 ∧ x2 = at8 key q2 ∧ x3 = at8 key q3) := ⟨hx0, hx1, hx2, hx3⟩
        clear hx0 hx1 hx2 hx3
        go_wp2
        refine region_frame [some 38, some 39, some 40, some 41, some 42, some 43, some 44, some 45, some 46, some 47, some 48, some 49, some 50, some 51, some 52, some 53, some 54, some 55, some 56, some 57, some 58, some 59, some 60, some 61, some 62, some 63, some 64, some 65, some 66, none] (by kernel_rfl) [some (.pointer (some ⟨g + 1, 0, none⟩)), some (vW), some (.slice (some ⟨bb, off, none⟩) n cap), some (.int .i64 (k : Int)), some (.int .i64 (q0 : Int)), some (.pointer (some ⟨bb, off + q0, none⟩)), some (.int .u8 (b8 x0 : Int)), some (.slice (some ⟨bb, off, none⟩) n cap), some (.int .i64 (k : Int)), some (.int .i64 (q0 : Int)), some (.int .i64 (q1 : Int)), some (.pointer (some ⟨bb, off + q1, none⟩)), some (.int .u8 (b8 x1 : Int)), some (.slice (some ⟨bb, off, none⟩) n cap), some (.int .i64 (k : Int)), some (.int .i64 (q0 : Int)), some (.int .i64 (q2 : Int)), some (.pointer (some ⟨bb, off + q2, none⟩)), some (.int .u8 (b8 x2 : Int)), some (.slice (some ⟨bb, off, none⟩) n cap), some (.int .i64 (k : Int)), some (.int .i64 (q0 : Int)), some (.int .i64 (q3 : Int)), some (.pointer (some ⟨bb, off + q3, none⟩)), some (.int .u8 (b8 x3 : Int)), some (.agg #[.int .u8 (b8 x0 : Int), .int .u8 (b8 x1 : Int), .int .u8 (b8 x2 : Int), .int .u8 (b8 x3 : Int)]), none, none, some (.pointer (some ⟨g + 1, 0, none⟩)), none] (AppC 26 27 29 w g gb (.slice (some ⟨bb, off, none⟩) n cap) vW key ((List.range k).map (wordOf key)) [x0, x1, x2, x3]) (by kernel_rfl) (by kernel_rfl) (by kernel_rfl) (by kernel_rfl) (by kernel_rfl) (by kernel_rfl) ?_ ?_ ?_ ?_ ?_
        · intro f
          have h := HI.out
          exact ⟨h.res, h.box, (HV.out.but h.but (fun _ _ _ h => h)).but ((But.refl (fun _ => False) wr).drew) (fun _ _ _ h => h), h.size, h.but.drew, fun _ => h.key, nofun, fun _ => h.own, nofun, nofun⟩
        · intro i u d f wx hu hC
          refine hC.keep i u ?_ ?_ ?_ <;> (rintro rfl; cases hu)
        · intro ρ r0 r1 r2 i o u d f wx ho hu hdi hsh hC
          have E38 := r1 0 38 _ (by kernel_rfl) rfl
          have E39 := r1 1 39 _ (by kernel_rfl) rfl
          have E40 := r1 2 40 _ (by kernel_rfl) rfl
          have E41 := r1 3 41 _ (by kernel_rfl) rfl
          have E42 := r1 4 42 _ (by kernel_rfl) rfl
          have E43 := r1 5 43 _ (by kernel_rfl) rfl
          have E44 := r1 6 44 _ (by kernel_rfl) rfl
          have E45 := r1 7 45 _ (by kernel_rfl) rfl
          have E46 := r1 8 46 _ (by kernel_rfl) rfl
          have E47 := r1 9 47 _ (by kernel_rfl) rfl
          have E48 := r1 10 48 _ (by kernel_rfl) rfl
          have E49 := r1 11 49 _ (by kernel_rfl) rfl
          have E50 := r1 12 50 _ (by kernel_rfl) rfl
          have E51 := r1 13 51 _ (by kernel_rfl) rfl
          have E52 := r1 14 52 _ (by kernel_rfl) rfl
          have E53 := r1 15 53 _ (by kernel_rfl) rfl
          have E54 := r1 16 54 _ (by kernel_rfl) rfl
          have E55 := r1 17 55 _ (by kernel_rfl) rfl
          have E56 := r1 18 56 _ (by kernel_rfl) rfl
          have E57 := r1 19 57 _ (by kernel_rfl) rfl
          have E58 := r1 20 58 _ (by kernel_rfl) rfl
          have E59 := r1 21 59 _ (by kernel_rfl) rfl
          have E60 := r1 22 60 _ (by kernel_rfl) rfl
          have E61 := r1 23 61 _ (by kernel_rfl) rfl
          have E62 := r1 24 62 _ (by kernel_rfl) rfl
          have E63 := r1 25 63 _ (by kernel_rfl) rfl
          have E66 := r1 28 66 _ (by kernel_rfl) rfl
          have O0 : ρ (.tmp 0) = .slice (some ⟨bb, off, none⟩) n cap := r2 0 (by kernel_rfl)
          have O4 : ρ (.tmp 4) = .pointer (some ⟨g + 1, 0, none⟩) := r2 4 (by kernel_rfl)
          have O8 : ρ (.tmp 8) = .int .i64 (k : Int) := r2 8 (by kernel_rfl)
          have hxx := HXX.out
          have hqq := HQQ.out
          have k0 := key_cell hC.bytes q0 (by omega)
          have k1 := key_cell hC.bytes q1 (by omega)
          have k2 := key_cell hC.bytes q2 (by omega)
          have k3 := key_cell hC.bytes q3 (by omega)
          rw [← hxx.1] at k0
          rw [← hxx.2.1] at k1
          rw [← hxx.2.2.1] at k2
          rw [← hxx.2.2.2] at k3
          have kW : d 1 = false → wx.cell? ⟨g + 1, 0, none⟩ = some vW := by
            intro h1
            have h29 : d 29 = false := by
              cases h : d 29 with
              | false => rfl
              | true =>
                have h27 := hsh 29 _ 27 rfl (by kernel_rfl) h
                have := hsh 27 _ 1 rfl (by kernel_rfl) h27
                rw [h1] at this; cases this
            rw [(hC.key0 h29).cell]; rfl
          clear hxx hqq hC r1 r2 hsh
          match i with
          | 0 =>
            simp only [List.getElem?_toArray, List.getElem?_cons_zero, Option.some.injEq] at ho
            subst ho
            obtain rfl := Option.some.inj hu
            go_simp
          | 1 =>
            simp only [List.getElem?_toArray, List.getElem?_cons_succ, List.getElem?_cons_zero, Option.some.injEq] at ho
            subst ho
            obtain rfl := Option.some.inj hu
            go_simp
          | 2 =>
            simp only [List.getElem?_toArray, List.getElem?_cons_succ, List.getElem?_cons_zero, Option.some.injEq] at ho
            subst ho
            obtain rfl := Option.some.inj hu
            go_simp
          | 3 =>
            simp only [List.getElem?_toArray, List.getElem?_cons_succ, List.getElem?_cons_zero, Option.some.injEq] at ho
            subst ho
            obtain rfl := Option.some.inj hu
            go_simp
          | 4 =>
            simp only [List.getElem?_toArray, List.getElem?_cons_succ, List.getElem?_cons_zero, Option.some.injEq] at ho
            subst ho
            obtain rfl := Option.some.inj hu
            go_simp
          | 5 =>
            simp only [List.getElem?_toArray, List.getElem?_cons_succ, List.getElem?_cons_zero, Option.some.injEq] at ho
            subst ho
            obtain rfl := Option.some.inj hu
            go_simp
          | 6 =>
            simp only [List.getElem?_toArray, List.getElem?_cons_succ, List.getElem?_cons_zero, Option.some.injEq] at ho
            subst ho
            obtain rfl := Option.some.inj hu
            go_simp
          | 7 =>
            simp only [List.getElem?_toArray, List.getElem?_cons_succ, List.getElem?_cons_zero, Option.some.injEq] at ho
            subst ho
            obtain rfl := Option.some.inj hu
            go_simp
          | 8 =>
            simp only [List.getElem?_toArray, List.getElem?_cons_succ, List.getElem?_cons_zero, Option.some.injEq] at ho
            subst ho
            obtain rfl := Option.some.inj hu
            go_simp
          | 9 =>
            simp only [List.getElem?_toArray, List.getElem?_cons_succ, List.getElem?_cons_zero, Option.some.injEq] at ho
            subst ho
            obtain rfl := Option.some.inj hu
            go_simp
          | 10 =>
            simp only [List.getElem?_toArray, List.getElem?_cons_succ, List.getElem?_cons_zero, Option.some.injEq] at ho
            subst ho
            obtain rfl := Option.some.inj hu
            go_simp
          | 11 =>
            simp only [List.getElem?_toArray, List.getElem?_cons_succ, List.getElem?_cons_zero, Option.some.injEq] at ho
            subst ho
            obtain rfl := Option.some.inj hu
            go_simp
          | 12 =>
            simp only [List.getElem?_toArray, List.getElem?_cons_succ, List.getElem?_cons_zero, Option.some.injEq] at ho
            subst ho
            obtain rfl := Option.some.inj hu
            go_simp
          | 13 =>
            simp only [List.getElem?_toArray, List.getElem?_cons_succ, List.getElem?_cons_zero, Option.some.injEq] at ho
            subst ho
            obtain rfl := Option.some.inj hu
            go_simp
          | 14 =>
            simp only [List.getElem?_toArray, List.getElem?_cons_succ, List.getElem?_cons_zero, Option.some.injEq] at ho
            subst ho
            obtain rfl := Option.some.inj hu
            go_simp
          | 15 =>
            simp only [List.getElem?_toArray, List.getElem?_cons_succ, List.getElem?_cons_zero, Option.some.injEq] at ho
            subst ho
            obtain rfl := Option.some.inj hu
            go_simp
          | 16 =>
            simp only [List.getElem?_toArray, List.getElem?_cons_succ, List.getElem?_cons_zero, Option.some.injEq] at ho
            subst ho
            obtain rfl := Option.some.inj hu
            go_simp
          | 17 =>
            simp only [List.getElem?_toArray, List.getElem?_cons_succ, List.getElem?_cons_zero, Option.some.injEq] at ho
            subst ho
            obtain rfl := Option.some.inj hu
            go_simp
          | 18 =>
            simp only [List.getElem?_toArray, List.getElem?_cons_succ, List.getElem?_cons_zero, Option.some.injEq] at ho
            subst ho
            obtain rfl := Option.some.inj hu
            go_simp
          | 19 =>
            simp only [List.getElem?_toArray, List.getElem?_cons_succ, List.getElem?_cons_zero, Option.some.injEq] at ho
            subst ho
            obtain rfl := Option.some.inj hu
            go_simp
          | 20 =>
            simp only [List.getElem?_toArray, List.getElem?_cons_succ, List.getElem?_cons_zero, Option.some.injEq] at ho
            subst ho
            obtain rfl := Option.some.inj hu
            go_simp
          | 21 =>
            simp only [List.getElem?_toArray, List.getElem?_cons_succ, List.getElem?_cons_zero, Option.some.injEq] at ho
            subst ho
            obtain rfl := Option.some.inj hu
            go_simp
          | 22 =>
            simp only [List.getElem?_toArray, List.getElem?_cons_succ, List.getElem?_cons_zero, Option.some.injEq] at ho
            subst ho
            obtain rfl := Option.some.inj hu
            go_simp
          | 23 =>
            simp only [List.getElem?_toArray, List.getElem?_cons_succ, List.getElem?_cons_zero, Option.some.injEq] at ho
            subst ho
            obtain rfl := Option.some.inj hu
            go_simp
          | 24 =>
            simp only [List.getElem?_toArray, List.getElem?_cons_succ, List.getElem?_cons_zero, Option.some.injEq] at ho
            subst ho
            obtain rfl := Option.some.inj hu
            go_simp
          | 25 =>
            simp only [List.getElem?_toArray, List.getElem?_cons_succ, List.getElem?_cons_zero, Option.some.injEq] at ho
            subst ho
            obtain rfl := Option.some.inj hu
            go_simp
          | 26 =>
            cases hu
          | 27 =>
            cases hu
          | 28 =>
            simp only [List.getElem?_toArray, List.getElem?_cons_succ, List.getElem?_cons_zero, Option.some.injEq] at ho
            subst ho
            obtain rfl := Option.some.inj hu
            go_simp
          | 29 =>
            cases hu
          | j + 30 => cases hu
        · intro i o d f a wx ho hu hdi hsh hw hC hsee
          match i with
          | 26 =>
            obtain rfl := Option.some.inj ho
            have e63 := hsee.tab 25 63 _ (by kernel_rfl) (by kernel_rfl) rfl
            refine op_row1 28 _ _ _ rfl e63 (row4 _ _ _ _ wx) ?_
            refine ⟨_, rfl, ?_⟩
            have al : But (fun _ => False) wx (wx.alloc (.cells #[.int .u8 (b8 x0 : Int), .int .u8 (b8 x1 : Int), .int .u8 (b8 x2 : Int), .int .u8 (b8 x3 : Int)] 58)) := (But.refl _ wx).alloc _
            have c1 : upd d 26 true 27 = d 27 := rfl
            have c2 : upd d 26 true 29 = d 29 := rfl
            refine ⟨hC.res.but al (fun h => h), hC.box.but al (fun h => h), hC.bytes.but al (fun _ _ _ h => h), Nat.le_trans hC.size al.size, hC.but.trans al, fun e => (hC.key0 e).but al (fun h => h), fun e => (hC.key1 e).but al (fun h => h), fun e => (hC.own0 e).alloc _, fun e => (hC.own1 e).alloc _, fun _ _ => ⟨wx.heap.size, rfl, fun j u hj => ?_⟩⟩
            have hb : Blk (wx.alloc (.cells (u8s (nts [x0, x1, x2, x3])).toArray 58)) wx.heap.size 58 (u8s (nts [x0, x1, x2, x3])) := Blk.new rfl
            exact (hb.cell j).trans hj
          | 27 =>
            obtain rfl := Option.some.inj ho
            have e39 := hsee.tab 1 39 _ (by kernel_rfl) (by kernel_rfl) rfl
            have e64 := hsee.dep 26 64 (by kernel_rfl) (by kernel_rfl)
            obtain ⟨h, hf, hcells⟩ := hC.lit (hw 26 (by kernel_rfl)) hdi
            obtain ⟨i0, hi0, hz0, hz1, hz2⟩ := info_parts info4
            have hown := hC.own0 hdi
            have hm8 := HM4.out
            refine wp_append_own wx _ _ 28 rfl (gb + 2) 58 i0 _ 4 4 Try.underlying28 hi0 hz0 hz1 hz2 rfl (by decide) vW _ _ e39 hown ⟨h, 0, none⟩ 1 1 (u8s (nts [x0, x1, x2, x3])) (e64.trans hf) rfl (fun j u hj => add_cell (hcells j u hj)) (u8s_one _) (by unfold maxLen; simp; omega) (by simp; omega) hC.size ?_
            intro v' w' hown' hgr _
            refine ⟨v', rfl, ?_⟩
            have hlt := hown.lt
            have hk : But (fun j => vW.ownBlock = some j) wx w' := ⟨hgr.os, hgr.tape, hgr.output, hgr.size, fun j hj hn => hgr.block j hj (fun e => hn e.symm)⟩
            have n0 : ∀ j, j < gb + 2 → ¬ (vW.ownBlock = some j) := fun j hj e => by have := (hlt j e).1; omega
            have hgb := HGB.out
            have hg := HG.out
            refine ⟨hC.res.but hk (n0 g (by omega)), hC.box.but hk (n0 gb (by omega)), hC.bytes.but hk (fun j hj _ => ?_), Nat.le_trans hC.size hgr.size, hC.but.then hk (fun j hj e => absurd e (n0 j (by omega))), fun e => (hC.key0 e).but hk (n0 (g + 1) (by omega)), fun e => ?_, nofun, fun _ => hown', nofun⟩
            · obtain rfl : bb = j := by simpa [Value.ownBlock] using hj
              exact n0 bb (by omega)
            · exfalso
              have h27 := hsh 29 _ 27 rfl (by kernel_rfl) e
              rw [hdi] at h27; cases h27
          | 29 =>
            obtain rfl := Option.some.inj ho
            have e66 := hsee.tab 28 66 _ (by kernel_rfl) (by kernel_rfl) rfl
            have e65 := hsee.dep 27 65 (by kernel_rfl) (by kernel_rfl)
            have h27 := hw 27 (by kernel_rfl)
            have hown := hC.own1 h27
            have hlt := hown.lt
            have hgb := HGB.out
            have hg := HG.out
            have hkey := hC.key0 hdi
            obtain ⟨_, ⟨_, h0⟩ | ⟨gr, cp, cur, hv27, hgr, _⟩⟩ := hown
            · omega
            · rw [hv27] at e65
              refine op_store_slice (by kernel_rfl) _ _ rfl (g + 1) 0 _ _ _ e66 e65 31 [] _ vW hkey rfl ?_
              intro w' hb' hbut'
              refine ⟨undef, rfl, ?_⟩
              refine ⟨hC.res.but hbut' (show ¬ (g = g + 1) by omega), hC.box.but hbut' (show ¬ (gb = g + 1) by omega), hC.bytes.but hbut' (fun j hj _ e => ?_), Nat.le_trans hC.size hbut'.size, hC.but.then hbut' (fun j hj e => by omega), nofun, fun _ => ?_, fun e => (hC.own0 e).kept ⟨hbut'.os, hbut'.tape, hbut'.output, hbut'.size, fun j hj hn => hbut'.block j hj (fun e => hn (by rw [e]))⟩ (.inr (fun e2 => ?_)), fun e => (hC.own1 e).kept ⟨hbut'.os, hbut'.tape, hbut'.output, hbut'.size, fun j hj hn => hbut'.block j hj (fun e => hn (by rw [e]))⟩ (.inr (fun e2 => ?_)), fun _ e => ?_⟩
              · obtain rfl : bb = j := by simpa [Value.ownBlock] using hj
                omega
              · show Blk w' (g + 1) _ (keyV (f 27))
                rw [hv27]; exact hb'
              · rw [show upd d 29 true 27 = d 27 from rfl, h27] at e; cases e
              · have e3 : (f 27).ownBlock = some (g + 1) := e2
                have := (hlt _ e3).1; omega
              · rw [show upd d 29 true 27 = d 27 from rfl, h27] at e; cases e
          | 0 => cases hu
          | 1 => cases hu
          | 2 => cases hu
          | 3 => cases hu
          | 4 => cases hu
          | 5 => cases hu
          | 6 => cases hu
          | 7 => cases hu
          | 8 => cases hu
          | 9 => cases hu
          | 10 => cases hu
          | 11 => cases hu
          | 12 => cases hu
          | 13 => cases hu
          | 14 => cases hu
          | 15 => cases hu
          | 16 => cases hu
          | 17 => cases hu
          | 18 => cases hu
          | 19 => cases hu
          | 20 => cases hu
          | 21 => cases hu
          | 22 => cases hu
          | 23 => cases hu
          | 24 => cases hu
          | 25 => cases hu
          | 28 => cases hu
          | j + 30 => cases ho
        · intro f wx hC hval
          have hkey := hC.key1 rfl
          have hown := hC.own1 rfl
          have HNI : Hid (NewI w g gb (f 27) ((List.range (k + 1)).map (wordOf key)) wx) := by
            have hxx := HXX.out
            have hqq := HQQ.out
            have e : [x0, x1, x2, x3] = wordOf key k := by
              unfold wordOf
              rw [hxx.1, hxx.2.1, hxx.2.2.1, hxx.2.2.2, hqq.1, hqq.2.1, hqq.2.2.1, hqq.2.2.2.1]
            have e2 : (List.range (k + 1)).map (wordOf key) = (List.range k).map (wordOf key) ++ [wordOf key k] := by rw [List.range_succ, List.map_append]; rfl
            refine ⟨hC.res, hkey, hC.box, ?_, hC.size, hC.but⟩
            rw [e2, ← e, List.length_append, List.flatten_append]
            simpa [nts, u8s] using hown
          clear hC hkey hown hval
          simp only [putL]
          go_wp2
          exact ⟨⟨k + 1, f 27, by omega, by go_num, HNI.out⟩, by simp [intOf]; omega⟩
      · have hkm : m = k := by omega
        subst hkm
        have HI0 : Hid (NewI w g gb vW (kws key m 0) wr) := HI.out
        have hki : ¬ ((m : Int) < (m : Int)) := by omega
        have hm8b : m ≤ 8 := by omega
        have hm4b : 4 ≤ m := by omega
        clear hm8 HI hlt hk hq1 hq2 e1
        obtain ⟨wo, hwo⟩ : ∃ wo, wo = wr := ⟨_, rfl⟩
        subst hwo
        go_wp2
        go_loopw [9] (fun i wr => ∃ (j : Nat) (vW : Value), j ≤ 3 * m + 28 ∧ i = .int .i64 (m + j : Nat) ∧ NewI w g gb vW (kws key m j) wr) (fun i _ => 100 - (intOf i).toNat)
        case atStart => exact ⟨0, vW, by omega, rfl, HI0.out⟩
        case round =>
          obtain ⟨j, vX, hj, rfl, hI⟩ := hrel
          obtain ⟨W, hW⟩ : ∃ W, W = kws key m j := ⟨_, rfl⟩
          obtain ⟨I, hI'⟩ : ∃ I, I = m + j := ⟨_, rfl⟩
          rw [← hW] at hI
          rw [← hI']
          have hWl : W.length = I := by rw [hW, kws_len, hI']
          have hW4 : ∀ x ∈ W, x.length = 4 := by rw [hW]; exact kws_four _ _ _
          obtain ⟨gr, cp, rfl, hgr1, hgr2, hcl⟩ := hI.rows hW4 (by omega)
          rw [hWl] at hI
          have hcl' : ∀ i j, i < I → j < 4 → wr.cell? ⟨gr, 4 * i + j, none⟩ = some (.int .u8 (b8 (at8 (W.getD i []) j) : Nat)) := fun i j hi hj => hcl i j (by rw [hWl]; exact hi) hj
          have HI := Hid.mk' hI
          have HWE := Hid.mk' hW
          have HIE := Hid.mk' hI'
          have HWL := Hid.mk' hWl
          have HW4 := Hid.mk' hW4
          have HCL := Hid.mk' hcl'
          have HJ := Hid.mk' hj
          have HGR := Hid.mk' hgr1
          have HGR2 := Hid.mk' hgr2
          clear HI0 hI hW hI' hW4 hcl hcl' hj hgr1 hgr2 hWl
          by_cases hlt : j < 3 * m + 28
          · have hie := HIE.out
            have t1 : (I : Int) < 4 * ((m : Int) + 7) := by omega
            obtain ⟨I1, hI1⟩ : ∃ I1, I1 = I - 1 := ⟨_, rfl⟩
            have d1 : (I : Int) - 1 = (I1 : Int) := by omega
            have d2 : (I1 : Int) < (I : Int) := by omega
            have hI64 : I ≤ 64 := by omega
            have hI11 : I1 < I := by omega
            have c0 : wr.cell? ⟨g + 1, 0, none⟩ = some (.slice (some ⟨gr, 0, none⟩) I cp) := by rw [HI.out.key.cell]; rfl
            obtain ⟨t, ht⟩ : ∃ t, t = W.getD I1 [] := ⟨_, rfl⟩
            have htl : t.length = 4 := by
              rw [ht]
              have h1 : I1 < W.length := by rw [HWL.out]; exact hI11
              have e : W.getD I1 [] = W[I1] := by simp [List.getD, h1]
              rw [e]; exact HW4.out _ (List.getElem_mem h1)
            have HTC : Hid (∀ j u, (u8s (nts t))[j]? = some u → wr.cell? ((⟨gr, I1 * 4, none⟩ : Addr).add j) = some u) :=
              word_cells htl (fun j hj => by rw [ht]; exact HCL.out I1 j hI11 hj)
            have HTL := Hid.mk' htl
            have HT := Hid.mk' ht
            have HI1E := Hid.mk' hI1
            clear hie ht htl hI1
            have hrm : Int.tmod (I : Int) (m : Int) = ((I % m : Nat) : Int) := by rw [Int.tmod_eq_emod_of_nonneg (by omega)]; rfl
            obtain ⟨g10, hg10⟩ : ∃ g10, g10 = wr.heap.size := ⟨_, rfl⟩
            have H10 : Hid (Blk (wr.alloc (.cells #[.int .u8 0, .int .u8 0, .int .u8 0, .int .u8 0] 58)) g10 58 (u8s [0, 0, 0, 0])) := Blk.new hg10.symm
            have HK10 : Hid (g + 1 < g10 ∧ gb < g10 ∧ (Value.slice (some ⟨gr, 0, none⟩) I cp).ownBlock ≠ some g10) := by
              rw [hg10]
              refine ⟨HI.out.key.lt, HI.out.box.lt, fun e => ?_⟩
              have e2 : gr = wr.heap.size := by simpa [Value.ownBlock] using e
              have := HGR2.out
              omega
            have HG10 := Hid.mk' hg10
            clear hg10
            by_cases hA : I % m = 0
            case' pos =>
              rw [hA] at hrm
              obtain ⟨q, hq⟩ : ∃ q, q = I / m := ⟨_, rfl⟩
              have hq1 : 1 ≤ q := by rw [hq]; exact (Nat.le_div_iff_mul_le (by omega)).2 (by have := HIE.out; omega)
              have hq2 : q ≤ I := by rw [hq]; exact Nat.div_le_self _ _
              obtain ⟨pp, hpp⟩ : ∃ pp, pp = q - 1 := ⟨_, rfl⟩
              have y1 : Int.tdiv (I : Int) (m : Int) = (q : Int) := by rw [Int.tdiv_eq_ediv_of_nonneg (by omega), hq]; rfl
              have y2 : IntKind.i64.wrap (q : Int) = (q : Int) := wrap_mid _ (by omega) (by omega)
              have y3 : IntKind.i64.wrap ((q : Int) - 1) = (pp : Int) := by rw [wrap_mid _ (by omega) (by omega)]; omega
              obtain ⟨P2, hP2⟩ : ∃ P2, P2 = pw 2#8 (I / m - 1) := ⟨_, rfl⟩
              have HPW : Hid (∀ w, Calls Try.prog 27 #[.int .u8 2, .int .i64 (pp : Int)] w fun e w' => e = .returned (.int .u8 (b8 P2 : Nat)) ∧ w' = w) := by
                intro w
                have h := rpower_any 2#8 (pp : Int) (by omega) (by omega) w
                rw [show ((pp : Int)).toNat = I / m - 1 by omega, ← hP2] at h
                exact h
              have HP2 := Hid.mk' hP2
              have hm0 : ¬ ((m : Int) = 0) := by omega
              have hm0' : ((m : Int) == 0) = false := by simp; omega
              have hm0'' : ¬ (m = 0) := by omega
              clear hq hpp hP2
              go_wp2_with (first
                | (refine wpList_load_cells rfl 58 _ rfl ⟨gr, I1 * 4, none⟩ rfl (u8s (nts t)) _ HTC.out Try.underlying58 rfl (by rw [i4s]; simp [u8s, nts_len, HTL.out]) ?_)
                | (refine wpList_store_u8s i4s rfl _ _ rfl wr.heap.size (nts t) (by rw [nts_len]; exact HTL.out) rfl (by exact rfl) _ rfl (HG10.out ▸ H10.out) ?_; intro w10 hb10 hbut10)
                | fail)
              rw [← HG10.out] at hb10 hbut10 ⊢
              have HI10 : Hid (NewI w g gb (.slice (some ⟨gr, 0, none⟩) I cp) W w10) := (HI.out.then ((But.refl _ _).alloc _)).put HG.out HK10.out.1 HK10.out.2.1 HK10.out.2.2 hbut10
              have H10t := Hid.mk' hb10
              clear hb10 hbut10
              have k0 := blk_nts H10t.out 0 (by rw [HTL.out]; decide)
              have k1 := blk_nts H10t.out 1 (by rw [HTL.out]; decide)
              have k2 := blk_nts H10t.out 2 (by rw [HTL.out]; decide)
              have k3 := blk_nts H10t.out 3 (by rw [HTL.out]; decide)
              have bxc : ∀ x : B8, w10.cell? ⟨gb, b8 x, none⟩ = some (.int .u8 (b8 (bx x) : Nat)) := fun x => by
                rw [blk_nts HI10.out.box (b8 x) (by rw [allBx_len]; exact b8_lt x), allBx_at]
              have m0 := bxc (at8 t 0)
              have m1 := bxc (at8 t 1)
              have m2 := bxc (at8 t 2)
              have m3 := bxc (at8 t 3)
              have s0 := b8_lt (at8 t 0)
              have s1 := b8_lt (at8 t 1)
              have s2 := b8_lt (at8 t 2)
              have s3 := b8_lt (at8 t 3)
              clear bxc
              generalize hT0 : at8 t 0 = T0 at *
              generalize hT1' : at8 t 1 = T1' at *
              generalize hT2 : at8 t 2 = T2 at *
              generalize hT3 : at8 t 3 = T3 at *
              have HTS : Hid (at8 t 0 = T0 ∧ at8 t 1 = T1' ∧ at8 t 2 = T2 ∧ at8 t 3 = T3) := ⟨hT0, hT1', hT2, hT3⟩
              have i0 : (b8 T0 : Int) < 256 := by omega
              have i1 : (b8 T1' : Int) < 256 := by omega
              have i2 : (b8 T2 : Int) < 256 := by omega
              have i3 : (b8 T3 : Int) < 256 := by omega
              clear hT0 hT1' hT2 hT3
              have hxor := xor_b8 (bx T1') P2
              obtain ⟨TT, hTT⟩ : ∃ TT, TT = [bx T1' ^^^ P2, bx T2, bx T3, bx T0] := ⟨_, rfl⟩
              refine region_ends (l := [_, _, _, _, _, _, _, _, _, _, _, _, _, _, _, _, _, _, _, _, _, _, _]) (o := _) (by kernel_rfl) (by kernel_rfl) (by kernel_rfl) rfl (by kernel_rfl) (by kernel_rfl) ?_
              repeat (quiet_step ((go_at_call 27; exact Calls.quiet_of_same (HPW.out _))))
              refine wpQuiet_nil ?_
              intro _ hw'
              obtain ⟨nq, hw''⟩ := hw'
              subst hw''
              have HTTL : Hid ((nts TT).length = 4) := by rw [hTT]; exact rfl
              have HTE : Hid (TT = turned m I t) := by
                have hts := HTS.out
                unfold turned
                rw [if_pos hA, hts.1, hts.2.1, hts.2.2.1, hts.2.2.2, hTT, HP2.out]; exact rfl
              go_wp2_with (first
                | (refine wpList_store_u8s i4s rfl _ _ rfl g10 (nts TT) HTTL.out rfl (by rw [hTT]; exact rfl) _ (by unfold u8s; rw [List.length_map, nts_len]; exact HTL.out) (show Blk (w10.drewN nq) g10 58 (u8s (nts t)) from H10t.out) ?_; intro wT hbT hbutT)
                | fail)
              have HIT : Hid (NewI w g gb (.slice (some ⟨gr, 0, none⟩) I cp) W wT) := (HI10.out.then (w' := w10.drewN nq) (But.refl (fun _ => False) w10).drewN).put HG.out HK10.out.1 HK10.out.2.1 HK10.out.2.2 hbutT
              have HTT := Hid.mk' hbT
              clear hbT hbutT HI10 H10t k0 k1 k2 k3 m0 m1 m2 m3 s0 s1 s2 s3 i0 i1 i2 i3 hTT
              clear hxor hrm
            case' neg =>
              have hrm2 : (((I % m : Nat) : Int) == 0) = false := by simp; omega
              have hr8 : Int.tmod (I : Int) 8 = ((I % 8 : Nat) : Int) := by rw [Int.tmod_eq_emod_of_nonneg (by omega)]; rfl
              have HNA := Hid.mk' hA
              clear hA
              generalize hrr : I % m = rr at hrm hrm2
              by_cases hB : m = 8 ∧ I % 8 = 4
              case' pos =>
                have e8 : ((m : Int) == 8) = true := by rw [hB.1]; rfl
                have e4 : (((I % 8 : Nat) : Int) == 4) = true := by rw [hB.2]; rfl
                have HBB := Hid.mk' hB
                clear hB
                generalize hr8' : I % 8 = r8 at hr8 e4
                go_wp2_with (first
                  | (refine wpList_load_cells rfl 58 _ rfl ⟨gr, I1 * 4, none⟩ rfl (u8s (nts t)) _ HTC.out Try.underlying58 rfl (by rw [i4s]; simp [u8s, nts_len, HTL.out]) ?_)
                  | (refine wpList_store_u8s i4s rfl _ _ rfl wr.heap.size (nts t) (by rw [nts_len]; exact HTL.out) rfl (by exact rfl) _ rfl (HG10.out ▸ H10.out) ?_; intro w10 hb10 hbut10)
                  | fail)
                rw [← HG10.out] at hb10 hbut10 ⊢
                have HI10 : Hid (NewI w g gb (.slice (some ⟨gr, 0, none⟩) I cp) W w10) := (HI.out.then ((But.refl _ _).alloc _)).put HG.out HK10.out.1 HK10.out.2.1 HK10.out.2.2 hbut10
                have H10t := Hid.mk' hb10
                clear hb10 hbut10
                have k0 := blk_nts H10t.out 0 (by rw [HTL.out]; decide)
                have k1 := blk_nts H10t.out 1 (by rw [HTL.out]; decide)
                have k2 := blk_nts H10t.out 2 (by rw [HTL.out]; decide)
                have k3 := blk_nts H10t.out 3 (by rw [HTL.out]; decide)
                have bxc : ∀ x : B8, w10.cell? ⟨gb, b8 x, none⟩ = some (.int .u8 (b8 (bx x) : Nat)) := fun x => by
                  rw [blk_nts HI10.out.box (b8 x) (by rw [allBx_len]; exact b8_lt x), allBx_at]
                have m0 := bxc (at8 t 0)
                have m1 := bxc (at8 t 1)
                have m2 := bxc (at8 t 2)
                have m3 := bxc (at8 t 3)
                have s0 := b8_lt (at8 t 0)
                have s1 := b8_lt (at8 t 1)
                have s2 := b8_lt (at8 t 2)
                have s3 := b8_lt (at8 t 3)
                clear bxc
                generalize hT0 : at8 t 0 = T0 at *
                generalize hT1' : at8 t 1 = T1' at *
                generalize hT2 : at8 t 2 = T2 at *
                generalize hT3 : at8 t 3 = T3 at *
                have HTS : Hid (at8 t 0 = T0 ∧ at8 t 1 = T1' ∧ at8 t 2 = T2 ∧ at8 t 3 = T3) := ⟨hT0, hT1', hT2, hT3⟩
                have i0 : (b8 T0 : Int) < 256 := by omega
                have i1 : (b8 T1' : Int) < 256 := by omega
                have i2 : (b8 T2 : Int) < 256 := by omega
                have i3 : (b8 T3 : Int) < 256 := by omega
                clear hT0 hT1' hT2 hT3
                obtain ⟨TT, hTT⟩ : ∃ TT, TT = [bx T0, bx T1', bx T2, bx T3] := ⟨_, rfl⟩
                refine region_ends (l := [_, _, _, _, _, _, _, _, _, _, _, _, _, _, _, _, _]) (o := _) (by kernel_rfl) (by kernel_rfl) (by kernel_rfl) rfl (by kernel_rfl) (by kernel_rfl) ?_
                repeat (quiet_step (fail))
                refine wpQuiet_nil ?_
                intro _ hw'
                obtain ⟨nq, hw''⟩ := hw'
                subst hw''
                have HTTL : Hid ((nts TT).length = 4) := by rw [hTT]; exact rfl
                have HTE : Hid (TT = turned m I t) := by
                  have hts := HTS.out
                  unfold turned
                  rw [if_neg HNA.out, if_pos HBB.out, hts.1, hts.2.1, hts.2.2.1, hts.2.2.2]; exact hTT
                go_wp2_with (first
                  | (refine wpList_store_u8s i4s rfl _ _ rfl g10 (nts TT) HTTL.out rfl (by rw [hTT]; exact rfl) _ (by unfold u8s; rw [List.length_map, nts_len]; exact HTL.out) (show Blk (w10.drewN nq) g10 58 (u8s (nts t)) from H10t.out) ?_; intro wT hbT hbutT)
                  | fail)
                have HIT : Hid (NewI w g gb (.slice (some ⟨gr, 0, none⟩) I cp) W wT) := (HI10.out.then (w' := w10.drewN nq) (But.refl (fun _ => False) w10).drewN).put HG.out HK10.out.1 HK10.out.2.1 HK10.out.2.2 hbutT
                have HTT := Hid.mk' hbT
                clear hbT hbutT HI10 H10t k0 k1 k2 k3 m0 m1 m2 m3 s0 s1 s2 s3 i0 i1 i2 i3 hTT
                clear e8 e4 hr8 hrm hrm2

              case' neg =>
                by_cases hm8' : m = 8
                case' pos =>
                  have e8 : ((m : Int) == 8) = true := by rw [hm8']; rfl
                  have e4 : (((I % 8 : Nat) : Int) == 4) = false := by
                    rw [beq_eq_false_iff_ne]; intro e; exact hB ⟨hm8', by omega⟩
                  have HB := Hid.mk' hB
                  clear hB hm8'
                  generalize hr8' : I % 8 = r8 at hr8 e4
                  go_wp2_with (first
                    | (refine wpList_load_cells rfl 58 _ rfl ⟨gr, I1 * 4, none⟩ rfl (u8s (nts t)) _ HTC.out Try.underlying58 rfl (by rw [i4s]; simp [u8s, nts_len, HTL.out]) ?_)
                    | (refine wpList_store_u8s i4s rfl _ _ rfl wr.heap.size (nts t) (by rw [nts_len]; exact HTL.out) rfl (by exact rfl) _ rfl (HG10.out ▸ H10.out) ?_; intro w10 hb10 hbut10)
                    | fail)
                  rw [← HG10.out] at hb10 hbut10 ⊢
                  have HI10 : Hid (NewI w g gb (.slice (some ⟨gr, 0, none⟩) I cp) W w10) := (HI.out.then ((But.refl _ _).alloc _)).put HG.out HK10.out.1 HK10.out.2.1 HK10.out.2.2 hbut10
                  have H10t := Hid.mk' hb10
                  clear hb10 hbut10
                  obtain ⟨TT, hTT⟩ : ∃ TT, TT = t := ⟨_, rfl⟩
                  obtain ⟨wT, hwT⟩ : ∃ wT, wT = w10 := ⟨_, rfl⟩
                  rw [← hwT] at HI10 H10t ⊢
                  have HIT := HI10
                  have HTTL : Hid ((nts TT).length = 4) := by rw [hTT, nts_len]; exact HTL.out
                  have HTT : Hid (Blk wT g10 58 (u8s (nts TT))) := by rw [hTT]; exact H10t.out
                  have HTE : Hid (TT = turned m I t) := by
                    unfold turned
                    rw [if_neg HNA.out, if_neg HB.out]; exact hTT
                  clear hwT HI10 H10t hTT
                  clear e8 e4 hr8 hrm hrm2
                case' neg =>
                  have e8 : ((m : Int) == 8) = false := by
                    rw [beq_eq_false_iff_ne]; intro e; exact hm8' (by omega)
                  have HB := Hid.mk' hB
                  clear hB hm8'
                  go_wp2_with (first
                    | (refine wpList_load_cells rfl 58 _ rfl ⟨gr, I1 * 4, none⟩ rfl (u8s (nts t)) _ HTC.out Try.underlying58 rfl (by rw [i4s]; simp [u8s, nts_len, HTL.out]) ?_)
                    | (refine wpList_store_u8s i4s rfl _ _ rfl wr.heap.size (nts t) (by rw [nts_len]; exact HTL.out) rfl (by exact rfl) _ rfl (HG10.out ▸ H10.out) ?_; intro w10 hb10 hbut10)
                    | fail)
                  rw [← HG10.out] at hb10 hbut10 ⊢
                  have HI10 : Hid (NewI w g gb (.slice (some ⟨gr, 0, none⟩) I cp) W w10) := (HI.out.then ((But.refl _ _).alloc _)).put HG.out HK10.out.1 HK10.out.2.1 HK10.out.2.2 hbut10
                  have H10t := Hid.mk' hb10
                  clear hb10 hbut10
                  obtain ⟨TT, hTT⟩ : ∃ TT, TT = t := ⟨_, rfl⟩
                  obtain ⟨wT, hwT⟩ : ∃ wT, wT = w10 := ⟨_, rfl⟩
                  rw [← hwT] at HI10 H10t ⊢
                  have HIT := HI10
                  have HTTL : Hid ((nts TT).length = 4) := by rw [hTT, nts_len]; exact HTL.out
                  have HTT : Hid (Blk wT g10 58 (u8s (nts TT))) := by rw [hTT]; exact H10t.out
                  have HTE : Hid (TT = turned m I t) := by
                    unfold turned
                    rw [if_neg HNA.out, if_neg HB.out]; exact hTT
                  clear hwT HI10 H10t hTT
                  clear e8 hr8 hrm hrm2

            all_goals
              obtain ⟨g11, hg11⟩ : ∃ g11, g11 = wT.heap.size := ⟨_, rfl⟩
              rw [← hg11]
              obtain ⟨u, hu⟩ : ∃ u, u = W.getD j [] := ⟨_, rfl⟩
              have HK11 : Hid (g + 1 < g11 ∧ gb < g11 ∧ (Value.slice (some ⟨gr, 0, none⟩) I cp).ownBlock ≠ some g11 ∧ g10 < g11) := by
                rw [hg11]
                refine ⟨HIT.out.key.lt, HIT.out.box.lt, fun e => ?_, HTT.out.lt⟩
                have := (HIT.out.own.lt _ e).2
                omega
              have HA : Hid (NewI w g gb (.slice (some ⟨gr, 0, none⟩) I cp) W (wT.alloc (.cells #[.int .u8 0, .int .u8 0, .int .u8 0, .int .u8 0] 58))) := HIT.out.then ((But.refl _ _).alloc _)
              have HTA : Hid (Blk (wT.alloc (.cells #[.int .u8 0, .int .u8 0, .int .u8 0, .int .u8 0] 58)) g10 58 (u8s (nts TT))) := HTT.out.but ((But.refl (fun _ => False) _).alloc _) (fun h => h)
              have H11 : Hid (Blk (wT.alloc (.cells #[.int .u8 0, .int .u8 0, .int .u8 0, .int .u8 0] 58)) g11 58 (u8s (nts (partX u TT 0)))) := Blk.new hg11.symm
              generalize wT.alloc (.cells #[.int .u8 0, .int .u8 0, .int .u8 0, .int .u8 0] 58) = W1 at *
              have HU := Hid.mk' hu
              clear hg11 hu HIT HTT
              go_loopw [12] (fun i wr => ∃ k : Nat, k ≤ 4 ∧ i = .int .i64 k ∧ NewI w g gb (.slice (some ⟨gr, 0, none⟩) I cp) W wr ∧ Blk wr g10 58 (u8s (nts TT)) ∧ Blk wr g11 58 (u8s (nts (partX u TT k)))) (fun i _ => 4 - (intOf i).toNat)
              case atStart => exact ⟨0, by decide, rfl, HA.out, HTA.out, H11.out⟩
              case round =>
                obtain ⟨k, hk, rfl, hI, hT, hX⟩ := hrel
                have HIK := Hid.mk' hI
                have HTK := Hid.mk' hT
                have HXK := Hid.mk' hX
                clear hI hT hX HA HTA H11
                by_cases hk4 : k < 4
                · have hki4 : (k : Int) < 4 := by omega
                  have hie := HIE.out
                  have z1 : IntKind.i64.wrap ((I : Int) - (m : Int)) = (j : Int) := by rw [wrap_mid _ (by omega) (by omega)]; omega
                  have z2 : (j : Int) < (I : Int) := by omega
                  have hji : j < I := by omega
                  have ck : wr.cell? ⟨g + 1, 0, none⟩ = some (.slice (some ⟨gr, 0, none⟩) I cp) := by rw [HIK.out.key.cell]; rfl
                  have cu := HIK.out.cell HW4.out j k (by rw [HWL.out]; exact hji) hk4
                  rw [← HU.out] at cu
                  have ct := blk_nts HTK.out k (by have := HTTL.out; rw [nts_len] at this; omega)
                  have cx := blk_nts HXK.out k (by rw [partX_len]; exact hk4)
                  have fx := HXK.out.free k
                  have hxo := xor_b8 (at8 u k) (at8 TT k)
                  generalize hUk : at8 u k = Uk at *
                  generalize hTk : at8 TT k = Tk at *
                  have HUT : Hid (at8 u k = Uk ∧ at8 TT k = Tk) := ⟨hUk, hTk⟩
                  clear hie hUk hTk
                  go_wp2
                  refine region_ends (l := [_, _, _, _, _, _, _, _, _, _, _, _, _, _, _]) (o := _) (by kernel_rfl) (by kernel_rfl) (by kernel_rfl) rfl (by kernel_rfl) (by kernel_rfl) ?_
                  repeat (quiet_step (fail))
                  refine wpQuiet_nil ?_
                  intro _ hw'
                  obtain ⟨nq, hw''⟩ := hw'
                  subst hw''
                  go_wp2
                  have hk11 := HK11.out
                  have hs2 : But (· = g11) wr ((wr.drewN nq).setCell ⟨g11, k, none⟩ (.int .u8 (b8 (Uk ^^^ Tk) : Nat))) := ((But.refl (· = g11) wr).drewN (n := nq)).setCell (p := ⟨g11, k, none⟩) (fun _ => rfl) _
                  refine ⟨⟨k + 1, by omega, by go_num, HIK.out.put HG.out hk11.1 hk11.2.1 hk11.2.2.1 hs2, HTK.out.but hs2 (show ¬ (g10 = g11) by omega), ?_⟩, by simp [intOf]; omega⟩
                  rw [← partX_set u TT k hk4, HUT.out.1, HUT.out.2]
                  exact blk_nts_set HXK.out k _
                · have hk4' : k = 4 := by omega
                  subst hk4'
                  rw [partX_all] at HXK
                  obtain ⟨x, hx⟩ : ∃ x, x = xor4 u TT := ⟨_, rfl⟩
                  rw [← hx] at HXK
                  have hxl : x.length = 4 := by rw [hx]; rfl
                  have hx4 := four_of hxl
                  obtain ⟨z0, hz0⟩ : ∃ z, z = at8 x 0 := ⟨_, rfl⟩
                  obtain ⟨z1, hz1⟩ : ∃ z, z = at8 x 1 := ⟨_, rfl⟩
                  obtain ⟨z2, hz2⟩ : ∃ z, z = at8 x 2 := ⟨_, rfl⟩
                  obtain ⟨z3, hz3⟩ : ∃ z, z = at8 x 3 := ⟨_, rfl⟩
                  rw [← hz0, ← hz1, ← hz2, ← hz3] at hx4
                  rw [hx4] at HXK
                  have HXE : Hid ([z0, z1, z2, z3] = xor4 u TT) := by rw [← hx4]; exact hx
                  have ck : wr.cell? ⟨g + 1, 0, none⟩ = some (.slice (some ⟨gr, 0, none⟩) I cp) := by rw [HIK.out.key.cell]; rfl
                  clear hx hxl hx4 hz0 hz1 hz2 hz3 HTK
                  obtain ⟨i0, hi0, hy0, hy1, hy2⟩ := info_parts info4
                  have HI0 := Hid.mk' hi0
                  have HY0 := Hid.mk' hy0
                  have HY1 := Hid.mk' hy1
                  have HY2 := Hid.mk' hy2
                  clear hi0 hy0 hy1 hy2
                  have HCN : Hid (∀ j u, (u8s (nts [z0, z1, z2, z3]))[j]? = some u → (wr.alloc (.cells #[.int .u8 (b8 z0 : Int), .int .u8 (b8 z1 : Int), .int .u8 (b8 z2 : Int), .int .u8 (b8 z3 : Int)] 58)).cell? ((⟨wr.heap.size, 0, none⟩ : Addr).add j) = some u) := by
                    intro j u hj
                    have hb : Blk (wr.alloc (.cells (u8s (nts [z0, z1, z2, z3])).toArray 58)) wr.heap.size 58 (u8s (nts [z0, z1, z2, z3])) := Blk.new rfl
                    exact add_cell ((hb.cell j).trans hj)
                  have HIA : Hid (NewI w g gb (.slice (some ⟨gr, 0, none⟩) I cp) W (wr.alloc (.cells #[.int .u8 (b8 z0 : Int), .int .u8 (b8 z1 : Int), .int .u8 (b8 z2 : Int), .int .u8 (b8 z3 : Int)] 58))) := HIK.out.then ((But.refl _ _).alloc _)
                  generalize hWA : wr.alloc (.cells #[.int .u8 (b8 z0 : Int), .int .u8 (b8 z1 : Int), .int .u8 (b8 z2 : Int), .int .u8 (b8 z3 : Int)] 58) = WA at *
                  have HWA := Hid.mk' hWA
                  clear hWA
                  have HOW : Hid (WA.ownsRow (gb + 2) 58 4 (.slice (some ⟨gr, 0, none⟩) I cp) I (u8s (nts W.flatten))) := by
                    have h := HIA.out.own
                    rw [HWL.out] at h
                    exact h
                  go_wp2_with (first
                    | (refine wpList_load_u8s Try.underlying58 i4s rfl _ rfl g11 (nts [z0, z1, z2, z3]) rfl rfl HXK.out ?_
                       refine wpList_plain rfl (fun K hK => op_row1 28 _ _ _ rfl rfl (row4 _ _ _ _ _) (hK _ _ ?_))
                       rw [HWA.out]
                       refine wpList_append_own WA rfl _ _ 28 rfl (gb + 2) 58 i0 _ 4 4 Try.underlying28 HI0.out HY0.out HY1.out HY2.out rfl (by decide) _ I _ rfl HOW.out ⟨wr.heap.size, 0, none⟩ 1 1 (u8s (nts [z0, z1, z2, z3])) rfl rfl HCN.out (u8s_one _) (by unfold maxLen; omega) (by omega) HIA.out.size ?_
                       intro v' w' hown' hgr' hiff
                       clear hiff
                       have HMI : Hid (MidI w g gb (.slice (some ⟨gr, 0, none⟩) I cp) v' W [z0, z1, z2, z3] w') := HIA.out.mid HG.out HGB.out hgr' (by rw [HWL.out]; exact hown')
                       obtain ⟨-, ⟨-, hI0⟩ | ⟨gr', cp', cur', rfl, -⟩⟩ := hown'
                       · omega
                       have fk := HMI.out.key.free 0
                       have ck2 : w'.cell? ⟨g + 1, 0, none⟩ = some (.slice (some ⟨gr, 0, none⟩) I cp) := by rw [HMI.out.key.cell]; rfl
                       clear hgr')
                    | fail)
                  have hNI := HMI.out.store HG.out HGB.out
                  have hie := HIE.out
                  refine ⟨⟨j + 1, .slice (some ⟨gr', 0, none⟩) (I + 1) cp', by omega, by rw [hie]; go_num, ?_⟩, by simp [intOf]; omega⟩
                  have e : kws key m (j + 1) = W ++ [[z0, z1, z2, z3]] := by
                    show kws key m j ++ [xor4 ((kws key m j).getD (m + j - m) []) (turned m (m + j) ((kws key m j).getD (m + j - 1) []))] = _
                    rw [← HWE.out, HXE.out, HU.out, HTE.out, HT.out, HI1E.out, ← hie, show I - m = j by omega]
                  rw [e]
                  exact hNI
          · have hj2 : j = 3 * m + 28 := by have := HJ.out; omega
            have hie := HIE.out
            have t1 : ¬ ((I : Int) < 4 * ((m : Int) + 7)) := by omega
            have HWD : Hid (W = words key) := by
              show _ = _
              rw [HWE.out, hj2]
              unfold words
              rw [← HN.out, show n / 4 = m by have := HM4.out; omega]
            have HWR : Hid (Wr wr (.slice (some ⟨gr, 0, none⟩) I cp) (words key)) := by rw [← HWD.out]; exact HI.out.words HW4.out (by rw [HWL.out]; omega)
            have HKL : Hid ((keyV (.slice (some ⟨gr, 0, none⟩) I cp)).length = 513) := keyV_len _
            have HKO : Hid (∀ u ∈ keyV (.slice (some ⟨gr, 0, none⟩) I cp), u.oneCell' = true) := by
              intro u hu
              unfold keyV at hu
              rcases List.mem_cons.1 hu with rfl | hu
              · rfl
              · rcases List.mem_append.1 hu with hu | hu <;> exact u8s_one _ u hu
            clear hie hj2
            go_wp2_with (first
              | (refine wpList_load_key rfl _ rfl (g + 1) rfl HI.out.key ?_)
              | (refine wpList_store_at rfl _ _ _ rfl g 0 (keyV (.slice (some ⟨gr, 0, none⟩) I cp)) rfl rfl 31 [] zeroKey [] (by rw [List.append_nil]; exact HI.out.res) rfl (by rw [zeroKey_len, HKL.out]) (by rw [iKey, HKL.out]) HKO.out ?_; intro w9 hb9 hbut9)
              | fail)
            have hb9' : Blk w9 g 31 (keyV (.slice (some ⟨gr, 0, none⟩) I cp)) := by
              have h := hb9
              rw [List.append_nil, List.nil_append] at h
              exact h
            refine bodyPost_ret (results_row_tmp rfl _ _ g _ _ _ (.bool true) rfl hb9' Try.underlying31 rfl (by rw [iKey, List.size_toArray, HKL.out]) rfl) rfl ⟨_, rfl, ?_, ?_⟩
            · refine ⟨HWR.out.but hbut9 ?_, ?_⟩
              · intro k hk e
                have h1 : gr = k := by simpa [Value.ownBlock] using hk
                have h2 : k = g := e
                have h3 := HGR.out
                have h4 := HGB.out
                omega
              · intro k hk
                have h1 : gr = k := by simpa [Value.ownBlock] using hk
                have h3 := HGR.out
                have h4 := HGB.out
                have h5 := HG.out
                omega
            · exact HI.out.but.then hbut9 (fun i hi e => by have := HG.out; omega)
theorem rnew_any {w : World} {v : Value} {key : List B8} (hv : Bs w v (nts key)) (hl : key.length = 16 ∨ key.length = 32) :
    Calls Try.prog 10 #[v] w fun e w' => ∃ vW, e = .returned (.tuple #[.agg (keyV vW).toArray, .bool true]) ∧ Wr w' vW (words key) ∧ But (fun _ => False) w w' :=
  (rnew_own hv hl).mono fun _ _ ⟨vW, h1, h2, h3⟩ => ⟨vW, h1, h2.1, h3⟩
end Go.Proofs.Ythmjdebnjcopnaa
/- The reference's key into a variable. -/
namespace Go.Proofs.Ythmjdebnjcopnaa
open Go.RowKit

theorem zeroK (w : World) : (zeroValue 31).run Try.prog w = .ok (.agg zeroKey.toArray) w := by kernel_rfl
theorem keyV_one (g n cap : Nat) : ∀ u ∈ keyV (.slice (some ⟨g, 0, none⟩) n cap), u.oneCell' = true := by
  intro u hu
  unfold keyV at hu
  rcases List.mem_cons.1 hu with rfl | hu
  · rfl
  · rcases List.mem_append.1 hu with h | h
    · exact u8s_one _ u h
    · exact u8s_one _ u h
/-- A key into a variable that was made for it. -/
theorem wpList_store_key {w : World} {ops : Array Oper} {rest : List Oper} {o : Oper} {a : Act} {Q : Exit → Act → World → Prop} (hgd : o.guard = none) (x y : Operand) (ho : o.op = .store 31 x y)
    (g : Nat) (L : List Value) (hL : L.length = 513) (h1 : ∀ u ∈ L, u.oneCell' = true) (hx : a.eval x = .pointer (some ⟨g, 0, none⟩)) (hy : a.eval y = .agg L.toArray) (hb : Blk w g 31 zeroKey)
    (h : ∀ w', Blk w' g 31 L → But (· = g) w w' → wpList Try.prog ops Q rest (a.put o.dst undef) w') : wpList Try.prog ops Q (o :: rest) a w := by
  refine wpList_store_at hgd 31 x y ho g 0 L hx hy 31 [] zeroKey [] (by simpa using hb) rfl (by rw [zeroKey_len, hL]) (by rw [iKey, hL]) h1 ?_
  intro w' hb' hb2
  exact h w' (by simpa using hb') hb2
end Go.Proofs.Ythmjdebnjcopnaa
/- Operations behind a guard that holds; regions that draw, all of whose operations yield the same values in every world of a class. -/
namespace Go.Proofs.Ythmjdebnjcopnaa
open Go.RowKit
theorem wpList_want {P : Program} {ops : Array Oper} {Q : Exit → Act → World → Prop} {a : Act} {w : World} {rest : List Oper} {o : Oper} (hw : Region.wanted o (yielded ops a.tmps) = true)
    (h : ∀ K : Act → World → Prop, (∀ a w, wpList P ops Q rest a w → K a w) → o.wp P a w K Q) : wpList P ops Q (o :: rest) a w :=
  wpList_step fun K hK => by simp only [hw, if_true]; exact h K hK
/-- A whole array of bytes out of a variable, behind a guard. -/
theorem wpList_load_u8s_g {T : TypeId} {n : Nat} {l : Nat} {e : TypeId} (hu : Try.prog.underlying T = some (.array l e)) (hi : (Try.prog.info? T).map (·.size) = some n)
    {w : World} {ops : Array Oper} {rest : List Oper} {o : Oper} {a : Act} {Q : Exit → Act → World → Prop} (hw : Region.wanted o (yielded ops a.tmps) = true) (x : Operand) (ho : o.op = .load T x)
    (g : Nat) (D : List Nat) (hD : D.length = n) (hx : a.eval x = .pointer (some ⟨g, 0, none⟩)) (hb : Blk w g T (u8s D))
    (h : wpList Try.prog ops Q rest (a.put o.dst (.agg (u8s D).toArray)) w) : wpList Try.prog ops Q (o :: rest) a w :=
  wpList_want hw fun _ hK => op_load_u8s hu hi x ho g D hD hx hb (hK _ _ h)
section
variable {P : Program} {l : List Oper} {o : Oper} {Q : Exit → Act → World → Prop}
theorem region_same {id : Nat} {a : Act} {w : World} (C : World → Prop) (hm : P.follows .mixedOrders = true) (hB : Region.lexB .any l.toArray = true)
    (h0 : C w.drew) (h : wpQuiet P l.toArray C (fun a' => ∀ w', C w' → Q .normal a' w') l a) : (Code.region id l.toArray true).wp P Q a w :=
  wp_region_quiet (C := C) hm hB h0 (by simpa using h)
variable {ops : Array Oper} {C : World → Prop} {rest : List Oper} {a : Act} {Qa : Act → Prop}
theorem guard_val (v : Value) (hw : Region.wanted o (yielded ops a.tmps) = true) (h : ∀ w, C w → (execOp a.eval o).run P w = .ok (.value v) w) (h2 : ∀ K : Act → Prop, (∀ a, wpQuiet P ops C Qa rest a → K a) → K (a.put o.dst v)) : wpQuiet P ops C Qa (o :: rest) a := by
  unfold wpQuiet
  rw [if_pos hw]
  refine ⟨v, fun w hw => ?_, h2 _ (fun _ h => h)⟩
  unfold Oper.quietAt
  rw [h w hw]
  exact ⟨rfl, rfl⟩
theorem guard_call (v : Value) (f : FuncId) (args : Array Value) (hw : Region.wanted o (yielded ops a.tmps) = true) (h : ∀ w, C w → (execOp a.eval o).run P w = .ok (.enter f args) w) (hc : ∀ w, C w → Calls P f args w fun e w' => e = .returned v ∧ C w') (h2 : ∀ K : Act → Prop, (∀ a, wpQuiet P ops C Qa rest a → K a) → K (a.put o.dst v)) : wpQuiet P ops C Qa (o :: rest) a := by
  unfold wpQuiet
  rw [if_pos hw]
  refine ⟨v, fun w hw => ?_, h2 _ (fun _ h => h)⟩
  unfold Oper.quietAt
  rw [h w hw]
  exact ⟨rfl, hc w hw⟩
/-- An operation behind a guard that does not hold. -/
theorem guard_skip (hw : Region.wanted o (yielded ops a.tmps) = false) (h2 : ∀ K : Act → Prop, (∀ a, wpQuiet P ops C Qa rest a → K a) → K (a.put o.dst undef)) : wpQuiet P ops C Qa (o :: rest) a := by
  unfold wpQuiet
  rw [if_neg (by rw [hw]; decide)]
  exact h2 _ (fun _ h => h)
end
/-- A whole array of bytes, as what an operation runs to. -/
theorem run_load_u8s {T : TypeId} {n l : Nat} {e : TypeId} (hu : Try.prog.underlying T = some (.array l e)) (hi : (Try.prog.info? T).map (·.size) = some n) {w : World} {o : Oper} {a : Act} {x : Operand} {g : Nat} {D : List Nat} (hb : Blk w g T (u8s D)) (hD : D.length = n)
    (ho : o.op = .load T x) (hx : a.eval x = .pointer (some ⟨g, 0, none⟩)) : (execOp a.eval o).run Try.prog w = .ok (.value (.agg (u8s D).toArray)) w := by
  have h := run_loadVar_cells w ⟨g, 0, none⟩ T (u8s D) _ (by
    intro j v hv
    have e : (⟨g, 0, none⟩ : Addr).add j = ⟨g, j, none⟩ := by simp [Addr.add]; exact fun h => h.symm
    rw [e, hb.cell]; exact hv) hu rfl (by rw [hi]; simp [u8s, hD])
  unfold execOp
  simp only [ho, hx, Instr.loadAt, Instr.sureAddr, Sem.run_bind, Sem.run_pure, Result.andThen_ok, h]
end Go.Proofs.Ythmjdebnjcopnaa
/- A region that draws its order and only makes new memory: each operation by what it yields. -/
namespace Go.Proofs.Ythmjdebnjcopnaa
open Go.RowKit

section
variable {P : Program} {ops : Array Oper} {Q : Exit → Act → World → Prop}

def slotOf (ops : Array Oper) (j : Nat) : Option Tmp := (ops[j]?).bind (·.dst)
/-- Each operation has a slot of its own, within the frame. -/
def ownSlots (ops : Array Oper) (sz : Nat) : Bool :=
  (List.range ops.size).all fun i => match slotOf ops i with
    | some d => decide (d < sz) && (List.range ops.size).all fun j => j == i || !(slotOf ops j == some d)
    | none => false
def isSlot (ops : Array Oper) (d : Nat) : Bool := (List.range ops.size).any fun j => slotOf ops j == some d
theorem slotOf_lt {j : Nat} {d : Tmp} (h : slotOf ops j = some d) : j < ops.size := by
  unfold slotOf at h
  cases ho : ops[j]? with
  | none => rw [ho] at h; cases h
  | some o => exact (Array.getElem?_eq_some_iff.1 ho).1
theorem ownSlots_at {sz i : Nat} (h : ownSlots ops sz = true) (hi : i < ops.size) : ∃ d, slotOf ops i = some d ∧ d < sz ∧ ∀ j, j ≠ i → slotOf ops j ≠ some d := by
  have h1 := List.all_eq_true.1 h i (by simpa using hi)
  cases hs : slotOf ops i with
  | none => rw [hs] at h1; cases h1
  | some d =>
    rw [hs] at h1
    simp only [Bool.and_eq_true, decide_eq_true_eq] at h1
    refine ⟨d, rfl, h1.1, fun j hj e => ?_⟩
    have h2 := List.all_eq_true.1 h1.2 j (by simpa using slotOf_lt e)
    simp [hj, e] at h2
theorem isSlot_of {j : Nat} {d : Tmp} (h : slotOf ops j = some d) : isSlot ops d = true :=
  List.any_eq_true.2 ⟨j, by simpa using slotOf_lt h, by simp [h]⟩

/-- What an operation may know when its turn comes. -/
structure Know (ops : Array Oper) (R : Nat → Value → World → Prop) (a0 a : Act) (w : World) (o : Oper) : Prop where
  dep : ∀ j d, (o.after.any fun e => Region.binds .any e && e.on == j) = true → slotOf ops j = some d → ∃ v, a.tmps[d]? = some v ∧ R j v w
  old : ∀ d, isSlot ops d = false → a.tmps[d]? = a0.tmps[d]?

structure Yields (ops : Array Oper) (R : Nat → Value → World → Prop) (a0 : Act) (w0 : World) (l : List Bool) (a : Act) (w : World) : Prop where
  but : But (fun _ => False) w0 w
  defers : a.defers = a0.defers
  size : a.tmps.size = a0.tmps.size
  done : ∀ j d, slotOf ops j = some d → l.getD j false = true → ∃ v, a.tmps[d]? = some v ∧ R j v w
  old : ∀ d, isSlot ops d = false → a.tmps[d]? = a0.tmps[d]?

theorem wpAny_know (J : List Bool → Act → World → Prop)
    (step : ∀ l a w i o, J l a w → l.length = ops.size → i ∈ Region.ready .any ops l.toArray → ops[i]? = some o → Region.wanted o (yielded ops a.tmps) = true ∧ o.wp P a w (J (l.set i true)) Q)
    (fin : ∀ l a w, J l a w → l.length = ops.size → Region.ready .any ops l.toArray = [] → Q .normal a w) :
    ∀ (fuel : Nat) (l : List Bool) (a : Act) (w : World), l.length = ops.size → l.count false ≤ fuel → J l a w → wpAny P .any ops Q fuel l.toArray a w := by
  intro fuel
  induction fuel with
  | zero =>
    intro l a w hl hc hj
    have hr := ready_none (md := .any) hl (by omega)
    exact ⟨hr, fin l a w hj hl hr⟩
  | succ fuel ih =>
    intro l a w hl hc hj
    refine ⟨fun hr => fin l a w hj hl hr, fun i hi => ?_⟩
    obtain ⟨hlt, hf⟩ := ready_open hi
    have hlt' : i < l.length := by omega
    have ho : ops[i]? = some ops[i] := by simp [hlt]
    obtain ⟨hw, hst⟩ := step l a w i _ hj hl hi ho
    have e : l.toArray.setIfInBounds i true = (l.set i true).toArray := by simp
    rw [e]
    unfold wpOp
    rw [ho]
    simp only [hw, if_true]
    refine .inl (Oper.wp_mono (fun a' w' hj' => ih _ a' w' (by simp [hl]) ?_ hj') hst)
    have := count_listed hlt' hf
    omega

theorem region_grow {id : Nat} {a0 : Act} {w0 : World} (hm : P.follows .mixedOrders = true) (ha : ahead ops = true) (hs : ownSlots ops a0.tmps.size = true) (R : Nat → Value → World → Prop)
    (mono : ∀ i v w w', R i v w → But (fun _ => False) w w' → R i v w')
    (step : ∀ i o a w, ops[i]? = some o → But (fun _ => False) w0 w → Know ops R a0 a w o → Region.wanted o (yielded ops a.tmps) = true ∧ o.wp P a w (fun a' w' => ∃ v, a' = a.put o.dst v ∧ But (fun _ => False) w w' ∧ R i v w') Q)
    (fin : ∀ a w, But (fun _ => False) w0 w → a.defers = a0.defers → (∀ j d, slotOf ops j = some d → ∃ v, a.tmps[d]? = some v ∧ R j v w) → (∀ d, isSlot ops d = false → a.tmps[d]? = a0.tmps[d]?) → Q .normal a w) :
    (Code.region id ops true).wp P Q a0 w0 := by
  refine wp_region_any hm ?_
  have e : Array.replicate ops.size false = (List.replicate ops.size false).toArray := by simp
  rw [e]
  refine wpAny_know (Yields ops R a0 w0) ?_ ?_ ops.size _ a0 _ (by simp) (by simp) ⟨(But.refl _ w0).drew, rfl, rfl, fun j d _ h => ?_, fun _ _ => rfl⟩
  · intro l a w i o hj hl hi ho
    obtain ⟨hlt, hf⟩ := ready_open hi
    have hdep := ready_dep hi ho
    obtain ⟨d, hd, hdl, hdn⟩ := ownSlots_at hs hlt
    have hod : o.dst = some d := by unfold slotOf at hd; rw [ho] at hd; exact hd
    have hkn : Know ops R a0 a w o := ⟨fun j d' hj1 hj2 => hj.done j d' hj2 (by
      rw [Array.any_eq_true] at hj1
      obtain ⟨x, hx, hx2⟩ := hj1
      simp only [Bool.and_eq_true, beq_iff_eq] at hx2
      rw [Array.all_eq_true] at hdep
      have := hdep x hx
      rw [hx2.1, hx2.2] at this
      simpa using this), hj.old⟩
    obtain ⟨hw, hwp⟩ := step i o a w ho hj.but hkn
    refine ⟨hw, Oper.wp_mono ?_ hwp⟩
    rintro a' w' ⟨v, rfl, hbut, hR⟩
    rw [hod]
    have htm : (a.put (some d) v).tmps = a.tmps.setIfInBounds d v := rfl
    have hil : i < l.length := by omega
    refine ⟨hj.but.trans hbut, hj.defers, by rw [htm]; simpa using hj.size, fun j d' hj1 hj2 => ?_, fun d' hd' => ?_⟩
    · by_cases hji : j = i
      · subst hji
        have : d' = d := Option.some.inj (hj1.symm.trans hd)
        subst this
        exact ⟨v, by rw [htm]; simp [hj.size, hdl], hR⟩
      · have hj3 : l.getD j false = true := by
          simp only [List.getD] at hj2 ⊢
          rwa [List.getElem?_set_ne (by omega)] at hj2
        obtain ⟨u, hu, hRu⟩ := hj.done j d' hj1 hj3
        have hne : d ≠ d' := fun e => hdn j hji (by rw [hj1, e])
        exact ⟨u, by rw [htm, Array.getElem?_setIfInBounds_ne hne]; exact hu, mono j u w w' hRu hbut⟩
    · have hne : d ≠ d' := fun e => by
        have := isSlot_of hd
        rw [e, hd'] at this
        cases this
      rw [htm, Array.getElem?_setIfInBounds_ne hne]
      exact hj.old d' hd'
  · intro l a w hj hl hr
    have hall := ready_all ha hl hr
    exact fin a w hj.but hj.defers (fun j d hd => hj.done j d hd (by
      rw [hall]
      have := slotOf_lt hd
      simp [List.getD, this])) hj.old
  · exfalso
    simp only [List.getD, List.getElem?_replicate] at h
    split at h <;> cases h

section
variable {R : Nat → Value → World → Prop} {a0 a : Act} {w : World} {o : Oper}
/-- The value of a slot. -/
theorem eval_slot {d : Tmp} {v : Value} (h : a.tmps[d]? = some v) : a.eval (.tmp d) = v := by
  unfold Act.eval
  simp [Array.getD_eq_getD_getElem?, h]
theorem Know.val (h : Know ops R a0 a w o) (j : Nat) (d : Tmp) (h1 : (o.after.any fun e => Region.binds .any e && e.on == j) = true) (h2 : slotOf ops j = some d) : R j (a.eval (.tmp d)) w := by
  obtain ⟨v, hv, hr⟩ := h.dep j d h1 h2
  rw [eval_slot hv]; exact hr
theorem Know.was (h : Know ops R a0 a w o) (d : Tmp) (h1 : isSlot ops d = false) : a.eval (.tmp d) = a0.eval (.tmp d) := by
  unfold Act.eval
  simp [Array.getD_eq_getD_getElem?, h.old d h1]
theorem Know.guard (h : Know ops R a0 a w o) (j : Nat) (d : Tmp) (b : Bool) (hg : o.guard = some (j, b)) (h1 : (o.after.any fun e => Region.binds .any e && e.on == j) = true) (h2 : slotOf ops j = some d) (h3 : ∀ v, R j v w → v = .bool b) : Region.wanted o (yielded ops a.tmps) = true := by
  obtain ⟨v, hv, hr⟩ := h.dep j d h1 h2
  rw [h3 v hr] at hv
  unfold slotOf at h2
  simp [Region.wanted, hg, yielded, h2, hv]
theorem Know.free (hg : o.guard = none) : Region.wanted o (yielded ops a.tmps) = true := by simp [Region.wanted, hg]
end
end
end Go.Proofs.Ythmjdebnjcopnaa
/- Bytes made, cut, read; a region that at last makes a variable and stores a block into it. -/
namespace Go.Proofs.Ythmjdebnjcopnaa
open Go.RowKit

theorem made_bytes (n : Nat) : madeCells (Value.cells (.int .u8 0)) n = (u8s (List.replicate n 0)).toArray := by
  apply Array.ext
  · simp [madeCells, u8s]
  · intro i h1 h2
    simp [madeCells, u8s, Value.cells, Nat.mod_one]
theorem make_bytes (w : World) (n : Nat) (h : n ≤ 2000) : Sem.run Try.prog (Instr.makeSlice 22 (.int .i64 (n : Int)) (.int .i64 (n : Int))) w = .ok (.slice (some ⟨w.heap.size, 0, none⟩) n n) (w.alloc (.cells (u8s (List.replicate n 0)).toArray 5)) := by
  obtain ⟨i, hi, hz, hs, hby⟩ := info_parts u8info
  have h1 := run_makeSlice (P := Try.prog) (w := w) 22 5 i (.int .u8 0) Try.underlying22 hi hz .i64 .i64 (n : Int) (n : Int) (by omega) (Int.le_refl _) (by rw [hs]; omega) (by rw [hby]; omega) (by omega)
  have e : (n : Int).toNat * i.size = n := by rw [hs]; omega
  rw [e, made_bytes] at h1
  exact h1
theorem run_indexS {w : World} {o : Oper} {a : Act} {x y : Operand} {ao : Option Addr} {b off A c k : Nat} (ho : o.op = .indexAddr 22 x y) (hx : a.eval x = .slice ao A c) (hao : ao = some ⟨b, off, none⟩) (hy : a.eval y = .int .i64 (k : Int)) (hk : k < A) :
    (execOp a.eval o).run Try.prog w = .ok (.value (.pointer (some ⟨b, off + k, none⟩))) w := by
  subst hao
  have hk' : (k : Int) < (A : Int) := by omega
  unfold execOp
  simp only [ho, hx, hy]
  go_simp
theorem run_loadS {w : World} {o : Oper} {a : Act} {x : Operand} {p : Addr} {z : Nat} (ho : o.op = .load 5 x) (hx : a.eval x = .pointer (some p)) (hc : w.cell? p = some (.int .u8 (z : Int))) :
    (execOp a.eval o).run Try.prog w = .ok (.value (.int .u8 (z : Int))) w := by
  unfold execOp
  simp only [ho, hx]
  go_simp
theorem run_slice_to {w w' : World} {ao : Option Addr} {A c n : Nat} {xs : List Nat} (hb : Bs w' (.slice ao A c) xs) (hn : n ≤ A) (hA : xs.length = A) : Sem.run Try.prog (Instr.sliceAt 22 (.slice ao A c) none (some (.int .i64 (n : Int))) none) w = .ok (.slice ao n c) w := by
  obtain ⟨ao', c', e, hnone, -⟩ := hb.gen
  simp only [Value.slice.injEq] at e
  obtain ⟨rfl, -, rfl⟩ := e
  have hcap : A ≤ c := by
    obtain ⟨-, -, ⟨rfl, -⟩ | ⟨-, b, off, cap', e, hcap, -, -⟩⟩ := hb
    · simp at hA; omega
    · simp only [Value.slice.injEq] at e
      omega
  cases ao with
  | none =>
    obtain ⟨h0, rfl⟩ := hnone rfl
    obtain rfl : n = 0 := by omega
    go_simp
  | some ad =>
    have hn' : (n : Int) ≤ (c : Int) := by omega
    go_simp
/-- The act of a goal brought down. -/
theorem act_letter {P : Program} {c : Code} {Q : Exit → Act → World → Prop} {a : Act} {w : World} (h : ∀ K : Act → Prop, (∀ b, Code.wp P c Q b w → K b) → K a) : Code.wp P c Q a w := h _ (fun _ h => h)
/-- What memory is amid a region that at last makes a variable and stores a state into it. -/
structure PutC (w0 : World) (x : List B8) (ia is : Nat) (d : Nat → Bool) (f : Nat → Value) (w : World) : Prop where
  but : But (fun _ => False) w0 w
  al : d ia = true → ∃ g, f ia = .pointer (some ⟨g, 0, none⟩) ∧ w0.heap.size ≤ g ∧ (d is = false → Blk w g 44 (u8s (List.replicate 16 0))) ∧ (d is = true → Blk w g 44 (u8s (nts x)))
theorem PutC.keep {w0 w : World} {x : List B8} {ia is : Nat} {d : Nat → Bool} {f : Nat → Value} (h : PutC w0 x ia is d f w) {i : Nat} (v : Value) (h1 : ia ≠ i) (h2 : is ≠ i) : PutC w0 x ia is (upd d i true) (upd f i v) w := by
  refine ⟨h.but, ?_⟩
  rw [upd_other d true h1, upd_other d true h2, upd_other f v h1]
  exact h.al
theorem PutC.then {w0 w w' : World} {x : List B8} {ia is : Nat} {d : Nat → Bool} {f : Nat → Value} (h : PutC w0 x ia is d f w) (k : But (fun _ => False) w w') : PutC w0 x ia is d f w' := by
  refine ⟨h.but.trans k, fun hd => ?_⟩
  obtain ⟨g, e, hg, h1, h2⟩ := h.al hd
  exact ⟨g, e, hg, fun hs => (h1 hs).but k (fun h => h), fun hs => (h2 hs).but k (fun h => h)⟩
theorem PutC.made {w0 w : World} {x : List B8} {ia is : Nat} {d : Nat → Bool} {f : Nat → Value} (h : PutC w0 x ia is d f w) (hs : d is = false) (hn : is ≠ ia) (Z : Array Value) (hZ : Z = (u8s (List.replicate 16 0)).toArray) : PutC w0 x ia is (upd d ia true) (upd f ia (.pointer (some ⟨w.heap.size, 0, none⟩))) (w.alloc (.cells Z 44)) := by
  refine ⟨h.but.trans ((But.refl _ w).alloc _), fun _ => ⟨w.heap.size, upd_same _ _ _, h.but.size, fun _ => by rw [hZ]; exact Blk.new rfl, fun e => ?_⟩⟩
  rw [upd_other d true hn, hs] at e
  cases e
theorem PutC.put {w0 w w' : World} {x : List B8} {ia is : Nat} {d : Nat → Bool} {f : Nat → Value} {g : Nat} (h : PutC w0 x ia is d f w) (hn : ia ≠ is) (e : f ia = .pointer (some ⟨g, 0, none⟩)) (hg : w0.heap.size ≤ g) (hb : Blk w' g 44 (u8s (nts x))) (k : But (· = g) w w') (v : Value) : PutC w0 x ia is (upd d is true) (upd f is v) w' := by
  refine ⟨h.but.then k (fun j hj e => by omega), fun _ => ⟨g, by rw [upd_other f v hn]; exact e, hg, fun e2 => ?_, fun _ => hb⟩⟩
  rw [upd_same] at e2; cases e2
theorem blk_bs {w : World} {g n : Nat} {L : List Nat} (h : Blk w g 5 (u8s L)) (hn : L.length = n) (hs : n ≤ 2000) (hl : ∀ z ∈ L, z < 256) : Bs w (.slice (some ⟨g, 0, none⟩) n n) L := by
  refine ⟨hl, by omega, ?_⟩
  by_cases h0 : n = 0
  · subst h0
    exact .inl ⟨List.eq_nil_of_length_eq_zero hn, .inr ⟨_, _, rfl⟩⟩
  · refine .inr ⟨by omega, g, 0, n, by rw [hn], by omega, h.lt, fun i hi => ?_⟩
    rw [Nat.zero_add, h.cell]; exact u8s_get L i hi
end Go.Proofs.Ythmjdebnjcopnaa
/- What the document's two keys make of its block, computed. -/
namespace Go.Proofs.Ythmjdebnjcopnaa
open Go.RowKit

def boxTab : List Nat := [99, 124, 119, 123, 242, 107, 111, 197, 48, 1, 103, 43, 254, 215, 171, 118, 202, 130, 201, 125, 250, 89, 71, 240, 173, 212, 162, 175, 156, 164, 114, 192, 183, 253, 147, 38, 54, 63, 247, 204, 52, 165, 229, 241, 113, 216, 49, 21, 4, 199, 35, 195, 24, 150, 5, 154, 7, 18, 128, 226, 235, 39, 178, 117, 9, 131, 44, 26, 27, 110, 90, 160, 82, 59, 214, 179, 41, 227, 47, 132, 83, 209, 0, 237, 32, 252, 177, 91, 106, 203, 190, 57, 74, 76, 88, 207, 208, 239, 170, 251, 67, 77, 51, 133, 69, 249, 2, 127, 80, 60, 159, 168, 81, 163, 64, 143, 146, 157, 56, 245, 188, 182, 218, 33, 16, 255, 243, 210, 205, 12, 19, 236, 95, 151, 68, 23, 196, 167, 126, 61, 100, 93, 25, 115, 96, 129, 79, 220, 34, 42, 144, 136, 70, 238, 184, 20, 222, 94, 11, 219, 224, 50, 58, 10, 73, 6, 36, 92, 194, 211, 172, 98, 145, 149, 228, 121, 231, 200, 55, 109, 141, 213, 78, 169, 108, 86, 244, 234, 101, 122, 174, 8, 186, 120, 37, 46, 28, 166, 180, 198, 232, 221, 116, 31, 75, 189, 139, 138, 112, 62, 181, 102, 72, 3, 246, 14, 97, 53, 87, 185, 134, 193, 29, 158, 225, 248, 152, 17, 105, 217, 142, 148, 155, 30, 135, 233, 206, 85, 40, 223, 140, 161, 137, 13, 191, 230, 66, 104, 65, 153, 45, 15, 176, 84, 187, 22]
def bxT (x : B8) : B8 := BitVec.ofNat 8 (boxTab.getD x.toNat 0)
theorem bx_tab (x : B8) : bx x = bxT x := by
  unfold bx
  rw [inv_eq]
  exact all8 (P := fun x => aff (pwq 8 1 x 254) = bxT x) (by decide +kernel) x
def subsT (b : List B8) : List B8 := mk16 fun i => bxT (at8 b (4 * ((i / 4 + i % 4) % 4) + i % 4))
theorem subs_tab (b : List B8) : subs b = subsT b := by unfold subs subsT; simp only [bx_tab]
def turnedT (n i : Nat) (t : List B8) : List B8 :=
  if i % n = 0 then [bxT (at8 t 1) ^^^ pw 2#8 (i / n - 1), bxT (at8 t 2), bxT (at8 t 3), bxT (at8 t 0)]
  else if n = 8 ∧ i % 8 = 4 then [bxT (at8 t 0), bxT (at8 t 1), bxT (at8 t 2), bxT (at8 t 3)] else t
theorem turned_tab (n i : Nat) (t : List B8) : turned n i t = turnedT n i t := by unfold turned turnedT; simp only [bx_tab]
/-- Words that keep the rule are the key's. -/
theorem kws_by {key : List B8} {n M : Nat} {L : List (List B8)} (hl : L.length = n + M) (h0 : L.take n = (List.range n).map (wordOf key)) (hn : 0 < n)
    (h : ∀ m, m < M → L.getD (n + m) [] = xor4 (L.getD m []) (turnedT n (n + m) (L.getD (n + m - 1) []))) : ∀ m, m ≤ M → kws key n m = L.take (n + m)
  | 0, _ => h0.symm
  | m + 1, hm => by
    show kws key n m ++ [xor4 ((kws key n m).getD (n + m - n) []) (turned n (n + m) ((kws key n m).getD (n + m - 1) []))] = _
    have e : ∀ j, j < n + m → (L.take (n + m)).getD j [] = L.getD j [] := by
      intro j hj
      unfold List.getD
      rw [List.getElem?_take, if_pos hj]
    rw [kws_by hl h0 hn h m (by omega), show n + m - n = m by omega, e m (by omega), e _ (by omega), turned_tab, ← h m (by omega), ← Nat.add_assoc, List.take_add_one]
    congr 1
    have hlt : n + m < L.length := by omega
    simp [List.getD, hlt]
/-- States that keep the rule are the rounds'. -/
theorem encR_by {W : List (List B8)} {last : Nat} {b : List B8} {S : List (List B8)} (h0 : S.getD 0 [] = addK W 0 b)
    (h : ∀ r, r < last → S.getD (r + 1) [] = addK W (r + 1) (if r + 1 < last then mixBy fwd (subsT (S.getD r [])) else subsT (S.getD r []))) : ∀ r, r ≤ last → encR W last b r = S.getD r []
  | 0, _ => h0.symm
  | r + 1, hr => by
    show addK W (r + 1) (if r + 1 < last then mixBy fwd (subs (encR W last b r)) else subs (encR W last b r)) = _
    rw [encR_by h0 h r (by omega), subs_tab, h r (by omega)]
def plain : List B8 := [0#8, 17#8, 34#8, 51#8, 68#8, 85#8, 102#8, 119#8, 136#8, 153#8, 170#8, 187#8, 204#8, 221#8, 238#8, 255#8]
def key16 : List B8 := [0#8, 1#8, 2#8, 3#8, 4#8, 5#8, 6#8, 7#8, 8#8, 9#8, 10#8, 11#8, 12#8, 13#8, 14#8, 15#8]
def key32 : List B8 := [0#8, 1#8, 2#8, 3#8, 4#8, 5#8, 6#8, 7#8, 8#8, 9#8, 10#8, 11#8, 12#8, 13#8, 14#8, 15#8, 16#8, 17#8, 18#8, 19#8, 20#8, 21#8, 22#8, 23#8, 24#8, 25#8, 26#8, 27#8, 28#8, 29#8, 30#8, 31#8]
def words16 : List (List B8) := [[0#8, 1#8, 2#8, 3#8], [4#8, 5#8, 6#8, 7#8], [8#8, 9#8, 10#8, 11#8], [12#8, 13#8, 14#8, 15#8], [214#8, 170#8, 116#8, 253#8], [210#8, 175#8, 114#8, 250#8], [218#8, 166#8, 120#8, 241#8], [214#8, 171#8, 118#8, 254#8], [182#8, 146#8, 207#8, 11#8], [100#8, 61#8, 189#8, 241#8], [190#8, 155#8, 197#8, 0#8], [104#8, 48#8, 179#8, 254#8], [182#8, 255#8, 116#8, 78#8], [210#8, 194#8, 201#8, 191#8], [108#8, 89#8, 12#8, 191#8], [4#8, 105#8, 191#8, 65#8], [71#8, 247#8, 247#8, 188#8], [149#8, 53#8, 62#8, 3#8], [249#8, 108#8, 50#8, 188#8], [253#8, 5#8, 141#8, 253#8], [60#8, 170#8, 163#8, 232#8], [169#8, 159#8, 157#8, 235#8], [80#8, 243#8, 175#8, 87#8], [173#8, 246#8, 34#8, 170#8], [94#8, 57#8, 15#8, 125#8], [247#8, 166#8, 146#8, 150#8], [167#8, 85#8, 61#8, 193#8], [10#8, 163#8, 31#8, 107#8], [20#8, 249#8, 112#8, 26#8], [227#8, 95#8, 226#8, 140#8], [68#8, 10#8, 223#8, 77#8], [78#8, 169#8, 192#8, 38#8], [71#8, 67#8, 135#8, 53#8], [164#8, 28#8, 101#8, 185#8], [224#8, 22#8, 186#8, 244#8], [174#8, 191#8, 122#8, 210#8], [84#8, 153#8, 50#8, 209#8], [240#8, 133#8, 87#8, 104#8], [16#8, 147#8, 237#8, 156#8], [190#8, 44#8, 151#8, 78#8], [19#8, 17#8, 29#8, 127#8], [227#8, 148#8, 74#8, 23#8], [243#8, 7#8, 167#8, 139#8], [77#8, 43#8, 48#8, 197#8]]
def words32 : List (List B8) := [[0#8, 1#8, 2#8, 3#8], [4#8, 5#8, 6#8, 7#8], [8#8, 9#8, 10#8, 11#8], [12#8, 13#8, 14#8, 15#8], [16#8, 17#8, 18#8, 19#8], [20#8, 21#8, 22#8, 23#8], [24#8, 25#8, 26#8, 27#8], [28#8, 29#8, 30#8, 31#8], [165#8, 115#8, 194#8, 159#8], [161#8, 118#8, 196#8, 152#8], [169#8, 127#8, 206#8, 147#8], [165#8, 114#8, 192#8, 156#8], [22#8, 81#8, 168#8, 205#8], [2#8, 68#8, 190#8, 218#8], [26#8, 93#8, 164#8, 193#8], [6#8, 64#8, 186#8, 222#8], [174#8, 135#8, 223#8, 240#8], [15#8, 241#8, 27#8, 104#8], [166#8, 142#8, 213#8, 251#8], [3#8, 252#8, 21#8, 103#8], [109#8, 225#8, 241#8, 72#8], [111#8, 165#8, 79#8, 146#8], [117#8, 248#8, 235#8, 83#8], [115#8, 184#8, 81#8, 141#8], [198#8, 86#8, 130#8, 127#8], [201#8, 167#8, 153#8, 23#8], [111#8, 41#8, 76#8, 236#8], [108#8, 213#8, 89#8, 139#8], [61#8, 226#8, 58#8, 117#8], [82#8, 71#8, 117#8, 231#8], [39#8, 191#8, 158#8, 180#8], [84#8, 7#8, 207#8, 57#8], [11#8, 220#8, 144#8, 95#8], [194#8, 123#8, 9#8, 72#8], [173#8, 82#8, 69#8, 164#8], [193#8, 135#8, 28#8, 47#8], [69#8, 245#8, 166#8, 96#8], [23#8, 178#8, 211#8, 135#8], [48#8, 13#8, 77#8, 51#8], [100#8, 10#8, 130#8, 10#8], [124#8, 207#8, 247#8, 28#8], [190#8, 180#8, 254#8, 84#8], [19#8, 230#8, 187#8, 240#8], [210#8, 97#8, 167#8, 223#8], [240#8, 26#8, 250#8, 254#8], [231#8, 168#8, 41#8, 121#8], [215#8, 165#8, 100#8, 74#8], [179#8, 175#8, 230#8, 64#8], [37#8, 65#8, 254#8, 113#8], [155#8, 245#8, 0#8, 37#8], [136#8, 19#8, 187#8, 213#8], [90#8, 114#8, 28#8, 10#8], [78#8, 90#8, 102#8, 153#8], [169#8, 242#8, 79#8, 224#8], [126#8, 87#8, 43#8, 170#8], [205#8, 248#8, 205#8, 234#8], [36#8, 252#8, 121#8, 204#8], [191#8, 9#8, 121#8, 233#8], [55#8, 26#8, 194#8, 60#8], [109#8, 104#8, 222#8, 54#8]]
def states16 : List (List B8) := [[0#8, 16#8, 32#8, 48#8, 64#8, 80#8, 96#8, 112#8, 128#8, 144#8, 160#8, 176#8, 192#8, 208#8, 224#8, 240#8], [137#8, 216#8, 16#8, 232#8, 133#8, 90#8, 206#8, 104#8, 45#8, 24#8, 67#8, 216#8, 203#8, 18#8, 143#8, 228#8], [73#8, 21#8, 89#8, 143#8, 85#8, 229#8, 215#8, 160#8, 218#8, 202#8, 148#8, 250#8, 31#8, 10#8, 99#8, 247#8], [250#8, 99#8, 106#8, 40#8, 37#8, 179#8, 57#8, 201#8, 64#8, 102#8, 138#8, 49#8, 87#8, 36#8, 77#8, 23#8], [36#8, 114#8, 64#8, 35#8, 105#8, 102#8, 179#8, 250#8, 110#8, 210#8, 117#8, 50#8, 136#8, 66#8, 91#8, 108#8], [200#8, 22#8, 119#8, 188#8, 155#8, 122#8, 201#8, 59#8, 37#8, 2#8, 121#8, 146#8, 176#8, 38#8, 25#8, 150#8], [198#8, 47#8, 225#8, 9#8, 247#8, 94#8, 237#8, 195#8, 204#8, 121#8, 57#8, 93#8, 132#8, 249#8, 207#8, 93#8], [209#8, 135#8, 108#8, 15#8, 121#8, 196#8, 48#8, 10#8, 180#8, 85#8, 148#8, 173#8, 214#8, 111#8, 244#8, 31#8], [253#8, 227#8, 186#8, 210#8, 5#8, 229#8, 208#8, 215#8, 53#8, 71#8, 150#8, 78#8, 241#8, 254#8, 55#8, 241#8], [189#8, 110#8, 124#8, 61#8, 242#8, 181#8, 119#8, 158#8, 11#8, 97#8, 33#8, 110#8, 139#8, 16#8, 182#8, 137#8], [105#8, 196#8, 224#8, 216#8, 106#8, 123#8, 4#8, 48#8, 216#8, 205#8, 183#8, 128#8, 112#8, 180#8, 197#8, 90#8]]
def states32 : List (List B8) := [[0#8, 16#8, 32#8, 48#8, 64#8, 80#8, 96#8, 112#8, 128#8, 144#8, 160#8, 176#8, 192#8, 208#8, 224#8, 240#8], [79#8, 99#8, 118#8, 6#8, 67#8, 224#8, 170#8, 133#8, 239#8, 167#8, 33#8, 50#8, 1#8, 164#8, 231#8, 5#8], [24#8, 89#8, 251#8, 194#8, 138#8, 28#8, 0#8, 160#8, 120#8, 237#8, 138#8, 173#8, 196#8, 47#8, 97#8, 9#8], [151#8, 92#8, 102#8, 193#8, 203#8, 159#8, 63#8, 168#8, 169#8, 58#8, 40#8, 223#8, 142#8, 225#8, 15#8, 99#8], [28#8, 5#8, 242#8, 113#8, 164#8, 23#8, 224#8, 79#8, 249#8, 33#8, 197#8, 193#8, 4#8, 112#8, 21#8, 84#8], [195#8, 87#8, 170#8, 225#8, 27#8, 69#8, 183#8, 176#8, 162#8, 199#8, 189#8, 40#8, 168#8, 220#8, 153#8, 250#8], [127#8, 7#8, 65#8, 67#8, 203#8, 78#8, 36#8, 62#8, 193#8, 12#8, 129#8, 93#8, 131#8, 117#8, 213#8, 76#8], [214#8, 83#8, 164#8, 105#8, 108#8, 160#8, 188#8, 15#8, 90#8, 202#8, 171#8, 93#8, 185#8, 108#8, 94#8, 125#8], [90#8, 168#8, 88#8, 57#8, 95#8, 210#8, 141#8, 125#8, 5#8, 225#8, 163#8, 136#8, 104#8, 243#8, 185#8, 197#8], [74#8, 130#8, 72#8, 81#8, 197#8, 126#8, 126#8, 71#8, 100#8, 61#8, 229#8, 12#8, 42#8, 243#8, 232#8, 201#8], [193#8, 73#8, 7#8, 246#8, 202#8, 59#8, 58#8, 160#8, 112#8, 233#8, 170#8, 49#8, 59#8, 82#8, 181#8, 236#8], [95#8, 156#8, 106#8, 191#8, 186#8, 198#8, 52#8, 170#8, 80#8, 64#8, 159#8, 167#8, 102#8, 103#8, 118#8, 83#8], [81#8, 102#8, 4#8, 149#8, 67#8, 83#8, 149#8, 3#8, 20#8, 251#8, 134#8, 228#8, 1#8, 146#8, 37#8, 33#8], [98#8, 123#8, 206#8, 185#8, 153#8, 157#8, 90#8, 170#8, 201#8, 69#8, 236#8, 244#8, 35#8, 245#8, 109#8, 165#8], [142#8, 162#8, 183#8, 202#8, 81#8, 103#8, 69#8, 191#8, 234#8, 252#8, 73#8, 144#8, 75#8, 73#8, 96#8, 137#8]]
def out16 : List B8 := [105#8, 196#8, 224#8, 216#8, 106#8, 123#8, 4#8, 48#8, 216#8, 205#8, 183#8, 128#8, 112#8, 180#8, 197#8, 90#8]
def out32 : List B8 := [142#8, 162#8, 183#8, 202#8, 81#8, 103#8, 69#8, 191#8, 234#8, 252#8, 73#8, 144#8, 75#8, 73#8, 96#8, 137#8]
theorem words_16 : words key16 = words16 := by
  show kws key16 4 40 = words16
  rw [kws_by (L := words16) (M := 40) (by decide +kernel) (by decide +kernel) (by decide) (by decide +kernel) 40 (Nat.le_refl _)]
  decide +kernel
theorem words_32 : words key32 = words32 := by
  show kws key32 8 52 = words32
  rw [kws_by (L := words32) (M := 52) (by decide +kernel) (by decide +kernel) (by decide) (by decide +kernel) 52 (Nat.le_refl _)]
  decide +kernel
theorem enc_16 : enc (words key16) plain = out16 := by
  rw [words_16]
  show encR words16 10 plain 10 = out16
  rw [encR_by (S := states16) (by decide +kernel) (by decide +kernel) 10 (Nat.le_refl _)]
  decide +kernel
theorem enc_32 : enc (words key32) plain = out32 := by
  rw [words_32]
  show encR words32 14 plain 14 = out32
  rw [encR_by (S := states32) (by decide +kernel) (by decide +kernel) 14 (Nat.le_refl _)]
  decide +kernel
end Go.Proofs.Ythmjdebnjcopnaa
/- Sealed texts: the stream, the tag. -/
namespace Go.Proofs.Ythmjdebnjcopnaa
open Go.RowKit

theorem enc_len (W : List (List B8)) (b : List B8) : (enc W b).length = 16 := encR_len _ _ _ _
theorem enc_inj (W : List (List B8)) {a b : List B8} (ha : a.length = 16) (hb : b.length = 16) (h : enc W a = enc W b) : a = b := by
  rw [← dec_enc W a ha, ← dec_enc W b hb, h]
/-- A number in four bytes. -/
def four (n : Nat) : List B8 := [BitVec.ofNat 8 (n / 16777216), BitVec.ofNat 8 (n / 65536), BitVec.ofNat 8 (n / 256), BitVec.ofNat 8 n]
/-- A nonce and a number, encrypted. -/
def ctr (W : List (List B8)) (nc : List B8) (n : Nat) : List B8 := enc W (nc ++ four n)
theorem ctr_len (W : List (List B8)) (nc : List B8) (n : Nat) : (ctr W nc n).length = 16 := enc_len _ _
theorem ctr_inj (W : List (List B8)) {a b : List B8} (ha : a.length = 12) (hb : b.length = 12) (n : Nat) (h : ctr W a n = ctr W b n) : a = b := by
  have e := enc_inj W (by simp [ha, four]) (by simp [hb, four]) h
  exact (List.append_inj e (by rw [ha, hb])).1
/-- Byte i of the stream. -/
def strm (W : List (List B8)) (nc : List B8) (i : Nat) : B8 := at8 (ctr W nc (i / 16 + 2)) (i % 16)
def gturn (W : List (List B8)) (nc : List B8) (p : List Nat) : List Nat := (List.range p.length).map fun i => b8 (BitVec.ofNat 8 (p.getD i 0) ^^^ strm W nc i)
theorem gturn_len (W : List (List B8)) (nc : List B8) (p : List Nat) : (gturn W nc p).length = p.length := by simp [gturn]
theorem gturn_at (W : List (List B8)) (nc : List B8) (p : List Nat) (i : Nat) (h : i < p.length) : (gturn W nc p).getD i 0 = b8 (BitVec.ofNat 8 (p.getD i 0) ^^^ strm W nc i) := by
  unfold gturn
  rw [List.getD_eq_getElem?_getD, List.getElem?_map, List.getElem?_range h]
  rfl
theorem gturn_lt (W : List (List B8)) (nc : List B8) (p : List Nat) : ∀ z ∈ gturn W nc p, z < 256 := by
  intro z hz
  obtain ⟨i, _, rfl⟩ := List.mem_map.1 hz
  exact b8_lt _
theorem ofNat_b8 (x : B8) : BitVec.ofNat 8 (b8 x) = x := b8_inj (b8_of _ (b8_lt x))
theorem gturn_twice (W : List (List B8)) (nc : List B8) {p : List Nat} (hp : ∀ z ∈ p, z < 256) : gturn W nc (gturn W nc p) = p := by
  have hl : (gturn W nc (gturn W nc p)).length = p.length := by rw [gturn_len, gturn_len]
  apply List.ext_getElem hl
  intro i h1 h2
  have e1 : (gturn W nc (gturn W nc p))[i] = (gturn W nc (gturn W nc p)).getD i 0 := by simp [List.getD, h1]
  have e2 : p[i] = p.getD i 0 := by simp [List.getD, h2]
  rw [e1, gturn_at _ _ _ i (by rw [gturn_len]; exact h2), gturn_at _ _ _ i h2, ofNat_b8, BitVec.xor_assoc, BitVec.xor_self, BitVec.xor_zero, e2]
  exact b8_of _ (by rw [← e2]; exact hp _ (List.getElem_mem h2))
/-- The key of the great field. -/
def ghk (W : List (List B8)) : List B8 := enc W gzero
theorem ghk_len (W : List (List B8)) : (ghk W).length = 16 := enc_len _ _
def gtag (W : List (List B8)) (nc : List B8) (aad text : List Nat) : List B8 := gadd (gsum (ghk W) aad text) (ctr W nc 1)
theorem gtag_len (W : List (List B8)) (nc : List B8) (aad text : List Nat) : (gtag W nc aad text).length = 16 := gadd_len _ _
def gseal (W : List (List B8)) (nc : List B8) (aad p : List Nat) : List Nat := gturn W nc p ++ nts (gtag W nc aad (gturn W nc p))
theorem gseal_len (W : List (List B8)) (nc : List B8) (aad p : List Nat) : (gseal W nc aad p).length = p.length + 16 := by
  unfold gseal
  rw [List.length_append, gturn_len, nts_len, gtag_len]
theorem gseal_lt (W : List (List B8)) (nc : List B8) (aad p : List Nat) : ∀ z ∈ gseal W nc aad p, z < 256 := by
  intro z hz
  rcases List.mem_append.1 hz with h | h
  · exact gturn_lt _ _ _ z h
  · exact nts_lt _ z h
/-- Are the last sixteen bytes the tag? -/
def good (W : List (List B8)) (nc : List B8) (aad s : List Nat) : Bool := decide (16 ≤ s.length ∧ nts (gtag W nc aad (s.take (s.length - 16))) = s.drop (s.length - 16))
theorem good_seal (W : List (List B8)) (nc : List B8) (aad p : List Nat) : good W nc aad (gseal W nc aad p) = true := by
  have hl := gseal_len W nc aad p
  unfold good
  rw [decide_eq_true_iff, hl, show p.length + 16 - 16 = p.length by omega]
  refine ⟨by omega, ?_⟩
  unfold gseal
  rw [List.take_append_of_le_length (by rw [gturn_len]; exact Nat.le_refl _), List.take_of_length_le (by rw [gturn_len]; exact Nat.le_refl _), List.drop_append_of_le_length (by rw [gturn_len]; exact Nat.le_refl _), List.drop_of_length_le (by rw [gturn_len]; exact Nat.le_refl _), List.nil_append]
theorem open_seal (W : List (List B8)) (nc : List B8) (aad : List Nat) {p : List Nat} (hp : ∀ z ∈ p, z < 256) : gturn W nc ((gseal W nc aad p).take ((gseal W nc aad p).length - 16)) = p := by
  rw [gseal_len, show p.length + 16 - 16 = p.length by omega]
  unfold gseal
  rw [List.take_append_of_le_length (by rw [gturn_len]; exact Nat.le_refl _), List.take_of_length_le (by rw [gturn_len]; exact Nat.le_refl _), gturn_twice W nc hp]
end Go.Proofs.Ythmjdebnjcopnaa
/- The reference's gcm: counters, the stream. -/
namespace Go.Proofs.Ythmjdebnjcopnaa
open Go.RowKit

/-- What a counter's block is, with k bytes of the nonce. -/
def half (nc : List B8) (k : Nat) : List B8 := nc.take k ++ List.replicate (16 - k) 0
theorem half_len {nc : List B8} (h : nc.length = 12) (k : Nat) (hk : k ≤ 12) : (half nc k).length = 16 := by
  unfold half; rw [List.length_append, List.length_take, List.length_replicate, h]; omega
theorem half_set {nc : List B8} (h : nc.length = 12) (k : Nat) (hk : k < 12) : (half nc k).set k (at8 nc k) = half nc (k + 1) := by
  unfold half
  have hl : (nc.take k).length = k := by rw [List.length_take, h]; omega
  rw [show 16 - k = (16 - (k + 1)) + 1 by omega, List.replicate_succ, List.set_append_right _ _ (by omega), hl, Nat.sub_self, List.set_cons_zero]
  have e : nc.take (k + 1) = nc.take k ++ [at8 nc k] := by
    rw [List.take_add_one]
    unfold at8 List.getD
    rw [List.getElem?_eq_getElem (by omega)]
    rfl
  rw [e, List.append_assoc]
  rfl
/-- And with k bytes of the number, the lowest ones. -/
def tail (nc : List B8) (n k : Nat) : List B8 := nc ++ (List.replicate (4 - k) 0 ++ (four n).drop (4 - k))
theorem tail_zero {nc : List B8} (h : nc.length = 12) (n : Nat) : half nc 12 = tail nc n 0 := by
  unfold half tail
  rw [List.take_of_length_le (by omega)]
  rfl
theorem tail_all (nc : List B8) (n : Nat) : tail nc n 4 = nc ++ four n := by simp [tail]
theorem tail_len {nc : List B8} (h : nc.length = 12) (n k : Nat) (_hk : k ≤ 4) : (tail nc n k).length = 16 := by
  unfold tail four; simp [h]
theorem tail_set {nc : List B8} (h : nc.length = 12) (n k : Nat) (hk : k < 4) : (tail nc n k).set (15 - k) (BitVec.ofNat 8 (n / 256 ^ k)) = tail nc n (k + 1) := by
  unfold tail
  rw [List.set_append_right _ _ (by omega), h]
  congr 1
  match k, hk with
  | 0, _ => simp [four, List.replicate, List.set]
  | 1, _ => simp [four, List.replicate, List.set]
  | 2, _ => simp [four, List.replicate, List.set]
  | 3, _ => simp [four]
/-- What memory is amid counter. -/
structure CtrI (w : World) (g : Nat) (v : Value) (nc D : List B8) (wr : World) : Prop where
  key : Blk wr g 31 (keyV v)
  non : Blk wr (g + 1) 23 (u8s (nts nc))
  res : Blk wr (g + 2) 44 (u8s (List.replicate 16 0))
  blk : Blk wr (g + 3) 44 (u8s (nts D))
  but : But (fun _ => False) w wr
theorem CtrI.put {w wr : World} {g : Nat} {v : Value} {nc D : List B8} (i : CtrI w g v nc D wr) (hg : w.heap.size ≤ g) (k : Nat) (x : B8) : CtrI w g v nc (D.set k x) (wr.setCell ⟨g + 3, k, none⟩ (.int .u8 (b8 x : Nat))) := by
  have b : But (· = g + 3) wr (wr.setCell ⟨g + 3, k, none⟩ (.int .u8 (b8 x : Nat))) := (But.refl (· = g + 3) wr).setCell (p := ⟨g + 3, k, none⟩) (fun _ => rfl) _
  exact ⟨i.key.but b (show ¬ (g = g + 3) by omega), i.non.but b (show ¬ (g + 1 = g + 3) by omega), i.res.but b (show ¬ (g + 2 = g + 3) by omega), blk_nts_set i.blk k x, i.but.then b (fun j hj e => by omega)⟩
set_option maxRecDepth 100000 in
set_option maxHeartbeats 2000000 in
theorem rcounter_any {w : World} {nc : List B8} {W : List (List B8)} {v : Value} {n : Nat} (hn : nc.length = 12) (hW : Wr w v W) (hl : W.length = 44 ∨ W.length = 60) (hb : n ≤ 1000000) :
    Calls Try.prog 51 #[.agg (keyV v).toArray, .agg (u8s (nts nc)).toArray, .int .i64 (n : Int)] w fun e w' => e = .returned (.agg (u8s (nts (ctr W nc n))).toArray) ∧ But (fun _ => False) w w' := by
  have hz := zeroG
  obtain ⟨Z, hZ⟩ : ∃ Z, Z = (u8s (List.replicate 16 0)).toArray := ⟨_, rfl⟩
  rw [← hZ] at hz
  obtain ⟨C, hC⟩ : ∃ C, C = (u8s (nts nc)).toArray := ⟨_, rfl⟩
  obtain ⟨F, hF⟩ : ∃ F, F = (keyV v).toArray := ⟨_, rfl⟩
  rw [← hC, ← hF]
  obtain ⟨g, hg⟩ : ∃ g, g = w.heap.size := ⟨_, rfl⟩
  have HI0 : Hid (CtrI w g v nc (half nc 0) ((((w.alloc (.cells F 31)).alloc (.cells C 23)).alloc (.cells Z 44)).alloc (.cells Z 44))) := by
    have al : ∀ (x : World) (o : Obj), But (fun _ => False) x (x.alloc o) := fun x o => (But.refl _ x).alloc o
    have e : nts (half nc 0) = List.replicate 16 0 := by unfold half; rw [List.take_zero, List.nil_append]; decide
    rw [hZ, hC, hF]
    refine ⟨(((Blk.new hg.symm).but (al _ _) (fun h => h)).but (al _ _) (fun h => h)).but (al _ _) (fun h => h), ((Blk.new (by simp [hg])).but (al _ _) (fun h => h)).but (al _ _) (fun h => h), (Blk.new (by simp [hg])).but (al _ _) (fun h => h), ?_, (((al _ _).alloc _).alloc _).alloc _⟩
    rw [e]
    exact Blk.new (by simp [hg])
  have HG := Hid.mk' hg
  have HN := Hid.mk' hn
  have HW := Hid.mk' hW
  have HL := Hid.mk' hl
  clear hZ hC hF hn hW hl
  go_enter Try.func51, Try.ntmps51
  go_wp2
  rw [← hg, show g + 1 + 1 = g + 2 from rfl, show g + 2 + 1 = g + 3 from rfl]
  generalize ((((w.alloc (.cells F 31)).alloc (.cells C 23)).alloc (.cells Z 44)).alloc (.cells Z 44)) = W0 at *
  clear hg hz
  go_loopw [8] (fun i wr => ∃ k : Nat, k ≤ 12 ∧ i = .int .i64 k ∧ CtrI w g v nc (half nc k) wr) (fun i _ => 12 - (intOf i).toNat)
  case atStart => exact ⟨0, by omega, rfl, HI0.out⟩
  case round =>
    obtain ⟨k, hk, rfl, hI⟩ := hrel
    have HI := Hid.mk' hI
    clear hI HI0
    by_cases hlt : k < 12
    · have hki : (k : Int) < 12 := by omega
      have hk16 : (k : Int) < 16 := by omega
      have c1 : wr.cell? ⟨g + 1, k, none⟩ = some (.int .u8 (b8 (at8 nc k) : Nat)) := blk_nts HI.out.non k (by rw [HN.out]; exact hlt)
      have c2 : wr.cell? ⟨g + 3, k, none⟩ = some (.int .u8 (b8 (at8 (half nc k) k) : Nat)) := blk_nts HI.out.blk k (by rw [half_len HN.out k (by omega)]; omega)
      have f2 : wr.frozen? ⟨g + 3, k, none⟩ = false := HI.out.blk.free k
      go_wp2
      refine ⟨⟨k + 1, by omega, by go_num, ?_⟩, by simp [intOf]; omega⟩
      rw [← half_set HN.out k hlt]
      exact HI.out.put (by rw [HG.out]; exact Nat.le_refl _) k _
    · have hkn : k = 12 := by omega
      subst hkn
      have hcast : ((12 : Nat) : Int) = 12 := rfl
      rw [hcast]
      go_wp2
      have HI2 : Hid (CtrI w g v nc (tail nc n 0) wr) := by
        have h := HI.out
        rw [tail_zero HN.out n] at h
        exact h
      clear HI
      go_loopw [9, 2] (fun i m wr => ∃ k : Nat, k ≤ 4 ∧ i = .int .i64 (15 - (k : Int)) ∧ m = .int .i64 ((n / 256 ^ k : Nat) : Int) ∧ CtrI w g v nc (tail nc n k) wr) (fun i _ _ => ((intOf i) - 11).toNat)
      case atStart => exact ⟨0, by omega, rfl, by simp, HI2.out⟩
      case round =>
        obtain ⟨k, hk, rfl, rfl, hI⟩ := hrel
        have HI := Hid.mk' hI
        clear hI HI2
        by_cases hlt : k < 4
        · obtain ⟨j, hj⟩ : ∃ j, j = 15 - k := ⟨_, rfl⟩
          have ej : (15 : Int) - (k : Int) = (j : Int) := by omega
          have hj1 : (12 : Int) ≤ (j : Int) := by omega
          have hj2 : (j : Int) < 16 := by omega
          obtain ⟨m, hm⟩ : ∃ m, m = n / 256 ^ k := ⟨_, rfl⟩
          have hmb : m ≤ 1000000 := by rw [hm]; exact Nat.le_trans (Nat.div_le_self _ _) hb
          have hmod : Int.tmod (m : Int) 256 = ((m % 256 : Nat) : Int) := by rw [Int.tmod_eq_emod_of_nonneg (by omega)]; omega
          have hdiv : Int.tdiv (m : Int) 256 = ((m / 256 : Nat) : Int) := by rw [Int.tdiv_eq_ediv_of_nonneg (by omega)]; omega
          have hb8 : b8 (BitVec.ofNat 8 m) = m % 256 := by unfold b8; simp
          have c2 : wr.cell? ⟨g + 3, j, none⟩ = some (.int .u8 (b8 (at8 (tail nc n k) j) : Nat)) := blk_nts HI.out.blk j (by rw [tail_len HN.out n k (by omega)]; omega)
          have f2 : wr.frozen? ⟨g + 3, j, none⟩ = false := HI.out.blk.free j
          rw [ej, ← hm]
          obtain ⟨r, hr⟩ : ∃ r, r = m % 256 := ⟨_, rfl⟩
          have hrl : r < 256 := by omega
          rw [← hr] at hmod hb8
          obtain ⟨q, hq⟩ : ∃ q, q = m / 256 := ⟨_, rfl⟩
          rw [← hq] at hdiv
          have hql : q ≤ 1000000 := by omega
          have HJ := Hid.mk' hj
          have HM := Hid.mk' hm
          have HR := Hid.mk' hb8
          have HQ := Hid.mk' hq
          clear hj hm hb8 hq hr ej
          go_wp2
          have hj' := HJ.out
          refine ⟨⟨k + 1, by omega, congrArg _ (by omega), ?_, ?_⟩, by simp [intOf]; omega⟩
          · rw [Nat.pow_succ, ← Nat.div_div_eq_div_mul, ← HM.out, ← HQ.out]
          · rw [← tail_set HN.out n k hlt, ← HM.out, ← hj', ← HR.out]
            exact HI.out.put (by rw [HG.out]; exact Nat.le_refl _) j _
        · have hkn : k = 4 := by omega
          subst hkn
          obtain ⟨m, hm⟩ : ∃ m, m = n / 256 ^ 4 := ⟨_, rfl⟩
          rw [← hm]
          clear hm
          obtain ⟨D, hD⟩ : ∃ D, D = tail nc n 4 := ⟨_, rfl⟩
          rw [← hD] at HI
          have HDL : Hid (D.length = 16) := by show _ = _; rw [hD, tail_len HN.out n 4 (by omega)]
          have HDN : Hid ((nts D).length = 16) := by show _ = _; rw [nts_len]; exact HDL.out
          rw [tail_all] at hD
          have HD := Hid.mk' hD
          have HE := Hid.mk' (renc_any HDL.out (HW.out.but HI.out.but (fun _ _ h => h)) HL.out)
          have hcast : (15 : Int) - ((4 : Nat) : Int) = 11 := rfl
          rw [hcast]
          clear hD
          go_wp2_with (first
            | (refine wpList_load_key rfl _ rfl g rfl HI.out.key ?_)
            | (refine wpList_load_u8s Try.underlying44 i16g rfl _ rfl (g + 3) (nts D) HDN.out rfl HI.out.blk ?_)
            | fail)
          refine Calls.mono HE.out ?_
          rintro e w1 ⟨rfl, hb1⟩
          have HR1 := Hid.mk' (HI.out.res.but hb1 (fun h => h))
          have HT1 := Hid.mk' (HI.out.but.trans hb1)
          obtain ⟨zs, hzs⟩ : ∃ zs, zs = nts (enc W D) := ⟨_, rfl⟩
          rw [← hzs]
          have HZL : Hid (zs.length = 16) := by show _ = _; rw [hzs, nts_len, enc_len]
          have HZS := Hid.mk' hzs
          clear hzs hb1 HE HI
          go_wp2_with (refine wpList_store_u8s i16g rfl _ _ rfl (g + 2) zs HZL.out rfl (by exact rfl) _ (by simp [u8s]) HR1.out ?_; intro w9 hb9 hbut9)
          refine bodyPost_ret (results_cell_row rfl _ _ (g + 2) _ _ _ _ rfl hb9 Try.underlying44 rfl (by rw [i16g]; simp [u8s, HZL.out])) rfl ⟨?_, HT1.out.then hbut9 (fun j hj e => by have := HG.out; omega)⟩
          unfold ctr
          rw [← HD.out, ← HZS.out]
end Go.Proofs.Ythmjdebnjcopnaa
/- The reference's gcm: a text xor the stream. -/
namespace Go.Proofs.Ythmjdebnjcopnaa
open Go.RowKit

/-- An own row laid open. -/
theorem Ow.open {w : World} {base : Nat} {v : Value} {zs : List Nat} (h : Ow w base v zs) (h0 : 0 < zs.length) :
    ∃ g cap R, v = .slice (some ⟨g, 0, none⟩) zs.length cap ∧ base ≤ g ∧ Blk w g 5 (u8s zs ++ R) ∧ R.length = cap - zs.length ∧ zs.length ≤ cap ∧ cap ≤ maxLen := by
  obtain ⟨hl, ⟨_, h1⟩ | ⟨g, cap, cur, rfl, hge, hb, h1, h2, h3, h4⟩⟩ := h.own
  · omega
  · refine ⟨g, cap, cur.toList.drop zs.length, rfl, hge, ?_, by rw [List.length_drop, Array.length_toList, h3, Nat.mul_one], h1, h2⟩
    rw [Nat.mul_one] at h4
    have e : u8s zs ++ cur.toList.drop zs.length = cur.toList := by rw [← h4, List.take_append_drop]
    show w.heap[g]? = some (.cells (u8s zs ++ cur.toList.drop zs.length).toArray _ _)
    rw [e, hb]
theorem Ow.shut {w : World} {base g cap : Nat} {zs : List Nat} {R : List Value} (hb : Blk w g 5 (u8s zs ++ R)) (hg : base ≤ g) (hz : ∀ z ∈ zs, z < 256) (hl : zs.length ≤ 281474976710656) (hR : R.length = cap - zs.length) (hc : zs.length ≤ cap) (hm : cap ≤ maxLen) :
    Ow w base (.slice (some ⟨g, 0, none⟩) zs.length cap) zs := by
  refine ⟨hz, hl, by simp [u8s], .inr ⟨g, cap, (u8s zs ++ R).toArray, rfl, hg, hb, hc, hm, ?_, ?_⟩⟩
  · rw [List.size_toArray, List.length_append, hR]; unfold u8s; rw [List.length_map]; omega
  · rw [Nat.mul_one]
    show (u8s zs ++ R).take zs.length = u8s zs
    have hs : (u8s zs).length = zs.length := by simp [u8s]
    rw [← hs, List.take_append_of_le_length (Nat.le_refl _), List.take_of_length_le (Nat.le_refl _)]
/-- The first m bytes turned. -/
def gto (W : List (List B8)) (nc : List B8) (xs : List Nat) (m : Nat) : List Nat := (gturn W nc xs).take m ++ xs.drop m
theorem gto_len (W : List (List B8)) (nc : List B8) (xs : List Nat) (m : Nat) : (gto W nc xs m).length = xs.length := by
  unfold gto; rw [List.length_append, List.length_take, gturn_len, List.length_drop]; omega
theorem gto_lt {W : List (List B8)} {nc : List B8} {xs : List Nat} (hx : ∀ z ∈ xs, z < 256) (m : Nat) : ∀ z ∈ gto W nc xs m, z < 256 := by
  intro z hz
  rcases List.mem_append.1 hz with h | h
  · exact gturn_lt _ _ _ z (List.mem_of_mem_take h)
  · exact hx z (List.mem_of_mem_drop h)
theorem gto_zero (W : List (List B8)) (nc : List B8) (xs : List Nat) : gto W nc xs 0 = xs := by simp [gto]
theorem gto_all (W : List (List B8)) (nc : List B8) (xs : List Nat) (m : Nat) (h : xs.length ≤ m) : gto W nc xs m = gturn W nc xs := by
  unfold gto
  rw [List.drop_of_length_le h, List.append_nil, List.take_of_length_le (by rw [gturn_len]; exact h)]
theorem gto_at (W : List (List B8)) (nc : List B8) (xs : List Nat) (m : Nat) (h : m < xs.length) : (gto W nc xs m).getD m 0 = xs.getD m 0 := by
  unfold gto List.getD
  rw [List.getElem?_append_right (by rw [List.length_take, gturn_len]; omega), List.length_take, gturn_len, List.getElem?_drop, show m + (m - min m xs.length) = m by omega]
theorem gto_set (W : List (List B8)) (nc : List B8) (xs : List Nat) (m : Nat) (h : m < xs.length) : (gto W nc xs m).set m (b8 (BitVec.ofNat 8 (xs.getD m 0) ^^^ strm W nc m)) = gto W nc xs (m + 1) := by
  unfold gto
  have hl : ((gturn W nc xs).take m).length = m := by rw [List.length_take, gturn_len]; omega
  rw [List.set_append_right _ _ (by omega), hl, Nat.sub_self, List.drop_eq_getElem_cons h, List.set_cons_zero, ← gturn_at W nc xs m h, take_next' (gturn W nc xs) m (by rw [gturn_len]; exact h), List.append_assoc]
  rfl
/-- What memory is amid Turned. -/
structure TrnI (w : World) (g : Nat) (v : Value) (nc : List B8) (go : Nat) (D : List Nat) (R : List Value) (wr : World) : Prop where
  key : Blk wr g 31 (keyV v)
  non : Blk wr (g + 1) 23 (u8s (nts nc))
  row : Blk wr go 5 (u8s D ++ R)
  but : But (fun _ => False) w wr
theorem TrnI.then {w wr w' : World} {g : Nat} {v : Value} {nc : List B8} {go : Nat} {D : List Nat} {R : List Value} (i : TrnI w g v nc go D R wr) (k : But (fun _ => False) wr w') : TrnI w g v nc go D R w' :=
  ⟨i.key.but k (fun h => h), i.non.but k (fun h => h), i.row.but k (fun h => h), i.but.trans k⟩
theorem TrnI.at {w wr : World} {g : Nat} {v : Value} {nc : List B8} {go : Nat} {D : List Nat} {R : List Value} (i : TrnI w g v nc go D R wr) (m : Nat) (h : m < D.length) : wr.cell? ⟨go, m, none⟩ = some (.int .u8 (D.getD m 0 : Nat)) := by
  rw [i.row.cell, List.getElem?_append_left (by simp [u8s]; exact h), u8s_get _ m h]
theorem TrnI.put {w wr : World} {g : Nat} {v : Value} {nc : List B8} {go : Nat} {D : List Nat} {R : List Value} (i : TrnI w g v nc go D R wr) (hg : w.heap.size ≤ g) (h1 : g + 1 < go) (m x : Nat) (h : m < D.length) : TrnI w g v nc go (D.set m x) R (wr.setCell ⟨go, m, none⟩ (.int .u8 (x : Int))) := by
  have b : But (· = go) wr (wr.setCell ⟨go, m, none⟩ (.int .u8 (x : Int))) := (But.refl (· = go) wr).setCell (p := ⟨go, m, none⟩) (fun _ => rfl) _
  refine ⟨i.key.but b (show ¬ (g = go) by omega), i.non.but b (show ¬ (g + 1 = go) by omega), ?_, i.but.then b (fun j hj e => by omega)⟩
  have h2 := i.row.set m (.int .u8 (x : Int))
  rwa [List.set_append_left _ _ (by simp [u8s]; exact h), u8s_set] at h2
theorem i12 : (Try.prog.info? 23).map (·.size) = some 12 := by kernel_rfl
set_option maxRecDepth 100000 in
set_option maxHeartbeats 2000000 in
theorem rturned_any {w : World} {nc : List B8} {W : List (List B8)} {v vp : Value} {xs : List Nat} (hn : nc.length = 12) (hW : Wr w v W) (hl : W.length = 44 ∨ W.length = 60) (hx : Bs w vp xs) (hb : xs.length ≤ 10000) :
    Calls Try.prog 31 #[.agg (keyV v).toArray, .agg (u8s (nts nc)).toArray, vp] w fun e w' => ∃ v', e = .returned v' ∧ Ow w' w.heap.size v' (gturn W nc xs) ∧ But (fun _ => False) w w' := by
  obtain ⟨C, hC⟩ : ∃ C, C = (u8s (nts nc)).toArray := ⟨_, rfl⟩
  obtain ⟨F, hF⟩ : ∃ F, F = (keyV v).toArray := ⟨_, rfl⟩
  rw [← hC, ← hF]
  obtain ⟨g, hg⟩ : ∃ g, g = w.heap.size := ⟨_, rfl⟩
  obtain ⟨W0, hW0⟩ : ∃ W0, W0 = ((w.alloc (.cells F 31)).alloc (.cells C 23)) := ⟨_, rfl⟩
  have al : ∀ (x : World) (o : Obj), But (fun _ => False) x (x.alloc o) := fun x o => (But.refl _ x).alloc o
  have hT0 : But (fun _ => False) w W0 := by rw [hW0]; exact (al _ _).alloc _
  have HK0 : Hid (Blk W0 g 31 (keyV v)) := by rw [hW0, hF]; exact (Blk.new hg.symm).but (al _ _) (fun h => h)
  have HN0 : Hid (Blk W0 (g + 1) 23 (u8s (nts nc))) := by rw [hW0, hC]; exact Blk.new (by simp [hg])
  have HCP := Hid.mk' (copy_any (hx.but hT0 (fun _ _ _ h => h)) (by omega))
  obtain ⟨ao, cp, rfl⟩ : ∃ ao c, vp = .slice ao xs.length c := by obtain ⟨ao, c, e, -, -⟩ := hx.gen; exact ⟨ao, c, e⟩
  obtain ⟨n, hn'⟩ : ∃ n, n = xs.length := ⟨_, rfl⟩
  rw [← hn'] at HCP hb ⊢
  have HX := Hid.mk' hx.1
  have HXL := Hid.mk' hn'
  have HT0 := Hid.mk' hT0
  have HG := Hid.mk' hg
  have HN := Hid.mk' hn
  have HNN : Hid ((nts nc).length = 12) := by show _ = _; rw [nts_len]; exact hn
  have HW := Hid.mk' hW
  have HL := Hid.mk' hl
  have HW0 := Hid.mk' hW0
  clear hC hF hn hW hl hW0 hT0 hg hx hn' al
  go_enter Try.func31, Try.ntmps31
  go_wp2_with fail
  rw [← HW0.out, ← HG.out]
  refine Calls.mono HCP.out ?_
  rintro e w1 ⟨vo, rfl, ho1, hb1⟩
  have HO1 := Hid.mk' ho1
  have HB1 : Hid (But (fun _ => False) W0 w1) := But.of hb1
  clear ho1 hb1 HCP HW0
  by_cases hn0 : n = 0
  · subst hn0
    go_wp2
    go_loopw [8] (fun i wr => i = .int .i64 0 ∧ wr = w1) (fun _ _ => 0)
    case atStart => exact ⟨rfl, rfl⟩
    case round =>
      obtain ⟨rfl, rfl⟩ := hrel
      go_wp2
      go_ret
      have hxs : xs = [] := List.eq_nil_of_length_eq_zero HXL.out.symm
      refine ⟨vo, rfl, ?_, HT0.out.trans HB1.out⟩
      have h := HO1.out
      subst hxs
      exact h.mono HT0.out.size
  · obtain ⟨go, cap, R, hvo, hgo, hrow, hRl, hcl, hcm⟩ := HO1.out.open (by rw [← HXL.out]; omega)
    rw [← HXL.out] at hvo hRl hcl
    subst hvo
    have hg1 : g + 1 < go := Nat.lt_of_lt_of_le HN0.out.lt hgo
    have HI0 : Hid (TrnI w g v nc go (gto W nc xs 0) R w1) := by
      refine ⟨HK0.out.but HB1.out (fun h => h), HN0.out.but HB1.out (fun h => h), ?_, HT0.out.trans HB1.out⟩
      rw [gto_zero]; exact hrow
    have HGE := Hid.mk' (show w.heap.size ≤ go by have := HG.out; omega)
    have HRL := Hid.mk' (And.intro hRl (And.intro hcl hcm))
    clear hgo hrow hRl hcl hcm HO1 HB1 HK0 HN0 HT0
    go_wp2
    go_loopw [8] (fun i wr => ∃ k : Nat, 16 * k ≤ n + 15 ∧ i = .int .i64 (16 * k : Nat) ∧ TrnI w g v nc go (gto W nc xs (min (16 * k) n)) R wr) (fun i _ => n + 16 - (intOf i).toNat)
    case atStart => exact ⟨0, by omega, rfl, by rw [show min (16 * 0) n = 0 by omega]; exact HI0.out⟩
    case round =>
      obtain ⟨k, hk, rfl, hI⟩ := hrel
      obtain ⟨i, hi⟩ : ∃ i, i = 16 * k := ⟨_, rfl⟩
      rw [← hi] at hI hk ⊢
      have HIK := Hid.mk' hi
      have HI := Hid.mk' hI
      clear hI HI0 hi
      by_cases hlt : i < n
      · have hii : (i : Int) < (n : Int) := by omega
        have hq : Int.tdiv (i : Int) 16 = (k : Int) := by have := HIK.out; rw [Int.tdiv_eq_ediv_of_nonneg (by omega)]; omega
        have hk1 : (k : Int) + 2 = ((k + 2 : Nat) : Int) := by omega
        have hkb : k ≤ 10000 := by have := HIK.out; omega
        have HE := Hid.mk' (rcounter_any (n := k + 2) HN.out (HW.out.but HI.out.but (fun _ _ h => h)) HL.out (by omega))
        rw [← hk1] at HE
        clear hk1
        go_wp2_with (first
          | (refine wpList_load_key rfl _ rfl g rfl HI.out.key ?_)
          | (refine wpList_load_u8s Try.underlying23 i12 rfl _ rfl (g + 1) (nts nc) HNN.out rfl HI.out.non ?_)
          | fail)
        refine Calls.mono HE.out ?_
        rintro e w2 ⟨rfl, hb2⟩
        have HI2 := Hid.mk' (HI.out.then hb2)
        obtain ⟨S, hS⟩ : ∃ S, S = ctr W nc (k + 2) := ⟨_, rfl⟩
        rw [← hS]
        have HSL : Hid (S.length = 16) := by show _ = _; rw [hS, ctr_len]
        have HSN : Hid ((nts S).length = 16) := by show _ = _; rw [nts_len]; exact HSL.out
        have HS := Hid.mk' hS
        have hz := zeroG
        obtain ⟨Z, hZ⟩ : ∃ Z, Z = (u8s (List.replicate 16 0)).toArray := ⟨_, rfl⟩
        rw [← hZ] at hz
        obtain ⟨gs, hgs⟩ : ∃ gs, gs = w2.heap.size := ⟨_, rfl⟩
        have HZ0 : Hid (Blk (w2.alloc (.cells Z 44)) gs 44 (u8s (List.replicate 16 0))) := by rw [hZ]; exact Blk.new hgs.symm
        have HGS : Hid (g + 1 < gs ∧ go < gs ∧ w.heap.size ≤ gs) := by rw [hgs]; exact ⟨HI2.out.non.lt, HI2.out.row.lt, HI2.out.but.size⟩
        have HI3 := Hid.mk' (HI2.out.then (w' := w2.alloc (.cells Z 44)) ((But.refl _ w2).alloc _))
        have HGW := Hid.mk' hgs
        clear hb2 hS hZ hgs HE HI2 HI
        go_wp2_with (first
          | (rw [← HGW.out]; refine wpList_store_u8s i16g rfl _ _ rfl gs (nts S) HSN.out rfl (by exact rfl) _ (by simp [u8s]) HZ0.out ?_; intro w3 hb3 hbut3)
          | fail)
        have hi' : min i n = i := by omega
        have HI4 : Hid (TrnI w g v nc go (gto W nc xs (i + 0)) R w3) := by
          have h := HI3.out
          rw [hi'] at h
          have hgs := HGS.out
          exact ⟨h.key.but hbut3 (show ¬ (g = gs) by omega), h.non.but hbut3 (show ¬ (g + 1 = gs) by omega), h.row.but hbut3 (show ¬ (go = gs) by omega), h.but.then hbut3 (fun j hj e => by omega)⟩
        have HS3 := Hid.mk' hb3
        clear hbut3 hb3 HI3 HZ0 HGW hi' hz
        go_loopw [10] (fun jv wr => ∃ j : Nat, j ≤ 16 ∧ i + j ≤ n ∧ jv = .int .i64 j ∧ TrnI w g v nc go (gto W nc xs (i + j)) R wr ∧ Blk wr gs 44 (u8s (nts S))) (fun jv _ => 16 - (intOf jv).toNat)
        case atStart => exact ⟨0, by omega, by omega, rfl, HI4.out, HS3.out⟩
        case round =>
          obtain ⟨j, hj, hin, rfl, hI, hSb⟩ := hrel
          have HI5 := Hid.mk' hI
          have HS5 := Hid.mk' hSb
          clear hI hSb HI4 HS3
          obtain ⟨m, hm⟩ : ∃ m, m = i + j := ⟨_, rfl⟩
          rw [← hm] at HI5 hin
          have hadd : (i : Int) + (j : Int) = (m : Int) := by omega
          have hwa : IntKind.i64.wrap ((i : Int) + (j : Int)) = (m : Int) := by rw [IntKind.wrap_i64]; omega
          have HMM := Hid.mk' hm
          clear hm
          by_cases hjl : j < 16
          · have hji : (j : Int) < 16 := by omega
            by_cases hml : m < n
            · have hmi : (m : Int) < (n : Int) := by omega
              have hwr : IntKind.i64.wrap (m : Int) = (m : Int) := by rw [IntKind.wrap_i64]; omega
              have hxl : xs.getD m 0 < 256 := HX.out _ (getD_mem xs m (by rw [← HXL.out]; exact hml))
              obtain ⟨x, hx⟩ := b8_get _ hxl
              obtain ⟨y, hy⟩ : ∃ y, y = at8 S j := ⟨_, rfl⟩
              have hys : y = strm W nc m := by
                unfold strm
                have := HIK.out
                have := HMM.out
                rw [hy, HS.out, show m / 16 + 2 = k + 2 by omega, show m % 16 = j by omega]
              have HC1 : Hid (∀ w', But (fun _ => False) wr w' → w'.cell? ⟨go, m, none⟩ = some (.int .u8 (b8 x : Int))) := by
                intro w' hw'
                rw [(HI5.out.then hw').at m (by rw [gto_len, ← HXL.out]; exact hml), gto_at W nc xs m (by rw [← HXL.out]; exact hml), hx]
              have HC2 : Hid (∀ w', But (fun _ => False) wr w' → w'.cell? ⟨gs, j, none⟩ = some (.int .u8 (b8 y : Int))) := by
                intro w' hw'
                rw [hy]
                exact blk_nts (HS5.out.but hw' (fun h => h)) j (by rw [HSL.out]; exact hjl)
              have hxor := xor_b8 x y
              have HXX := Hid.mk' hx
              have HYS := Hid.mk' hys
              clear hx hy hys hxl
              go_upto_region 9 with fail
              refine region_class (l := [_, _, _, _, _, _, _, _, _, _, _, _, _, _, _]) (o := _) (fun w' => But (fun _ => False) wr w') (by kernel_rfl) (by kernel_rfl) (by kernel_rfl) rfl (by kernel_rfl) (by kernel_rfl) ((But.refl _ wr).drew) ?_
              refine class_val _ rfl (fun w' _ => rfl) ?_
              intro K hK; go_simp; refine hK _ ?_; clear hK K
              refine class_val _ rfl (fun w' _ => rfl) ?_
              intro K hK; go_simp; refine hK _ ?_; clear hK K
              refine class_val _ rfl (fun w' _ => rfl) ?_
              intro K hK; go_simp; refine hK _ ?_; clear hK K
              refine class_val (.int .i64 (m : Int)) rfl (fun w' _ => by go_simp) ?_
              intro K hK; go_simp; refine hK _ ?_; clear hK K
              refine class_val _ rfl (fun w' _ => rfl) ?_
              intro K hK; go_simp; refine hK _ ?_; clear hK K
              refine class_val _ rfl (fun w' _ => rfl) ?_
              intro K hK; go_simp; refine hK _ ?_; clear hK K
              refine class_val _ rfl (fun w' _ => rfl) ?_
              intro K hK; go_simp; refine hK _ ?_; clear hK K
              refine class_val (.int .i64 (m : Int)) rfl (fun w' _ => by go_simp) ?_
              intro K hK; go_simp; refine hK _ ?_; clear hK K
              refine class_val (.pointer (some ⟨go, m, none⟩)) rfl (fun w' _ => by go_simp) ?_
              intro K hK; go_simp; refine hK _ ?_; clear hK K
              refine class_val (.int .u8 (b8 x : Int)) rfl (fun w' hw' => by have hc := HC1.out w' hw'; go_simp) ?_
              intro K hK; go_simp; refine hK _ ?_; clear hK K
              refine class_val _ rfl (fun w' _ => rfl) ?_
              intro K hK; go_simp; refine hK _ ?_; clear hK K
              refine class_val (.pointer (some ⟨gs, j, none⟩)) rfl (fun w' _ => by go_simp) ?_
              intro K hK; go_simp; refine hK _ ?_; clear hK K
              refine class_val (.int .u8 (b8 y : Int)) rfl (fun w' hw' => by have hc := HC2.out w' hw'; go_simp) ?_
              intro K hK; go_simp; refine hK _ ?_; clear hK K
              refine class_val (.int .u8 (b8 (x ^^^ y) : Int)) rfl (fun w' _ => by go_simp) ?_
              intro K hK; go_simp; refine hK _ ?_; clear hK K
              refine class_val (.pointer (some ⟨go, m, none⟩)) rfl (fun w' _ => by go_simp) ?_
              intro K hK; go_simp; refine hK _ ?_; clear hK K
              refine wpQuiet_nil ?_
              intro w6 hw6
              have c6 := HC1.out w6 hw6
              have HI6 := Hid.mk' (HI5.out.then hw6)
              have HS6 := Hid.mk' (HS5.out.but hw6 (fun h => h))
              have f6 : w6.frozen? ⟨go, m, none⟩ = false := HI6.out.row.free m
              clear hw6 HI5 HS5 HC1 HC2
              go_wp2
              have hm' := HMM.out
              refine ⟨⟨j + 1, by omega, by omega, by go_num, ?_, ?_⟩, by simp [intOf]; omega⟩
              · rw [show i + (j + 1) = m + 1 by omega, ← gto_set W nc xs m (by rw [← HXL.out]; exact hml), ← HYS.out, HXX.out, ofNat_b8]
                exact HI6.out.put (by rw [HG.out]; exact Nat.le_refl _) hg1 m _ (by rw [gto_len, ← HXL.out]; exact hml)
              · have hgs := HGS.out
                exact HS6.out.but ((But.refl (· = go) w6).setCell (p := ⟨go, m, none⟩) (fun _ => rfl) _) (show ¬ (gs = go) by omega)
            · have hmi : ¬ ((m : Int) < (n : Int)) := by omega
              go_wp2
              have hik := HIK.out
              have hm' := HMM.out
              refine ⟨⟨k + 1, by omega, congrArg _ (by omega), ?_⟩, by simp [intOf]; omega⟩
              rw [show min (16 * (k + 1)) n = m by omega]
              exact HI5.out
          · have hji : ¬ ((j : Int) < 16) := by omega
            go_wp2
            have hik := HIK.out
            have hm' := HMM.out
            refine ⟨⟨k + 1, by omega, congrArg _ (by omega), ?_⟩, by simp [intOf]; omega⟩
            rw [show min (16 * (k + 1)) n = m by omega]
            exact HI5.out
      · have hle : n ≤ i := by omega
        have hgt : ¬ ((i : Int) < (n : Int)) := by omega
        go_wp2
        go_ret
        have h := HI.out.row
        rw [gto_all W nc xs _ (by rw [← HXL.out]; omega)] at h
        have h2 := Ow.shut (base := w.heap.size) (cap := cap) h HGE.out (gturn_lt W nc xs) (by rw [gturn_len, ← HXL.out]; omega) (by rw [gturn_len, ← HXL.out]; exact HRL.out.1) (by rw [gturn_len, ← HXL.out]; exact HRL.out.2.1) HRL.out.2.2
        rw [gturn_len, ← HXL.out] at h2
        exact ⟨_, rfl, h2, HI.out.but⟩
end Go.Proofs.Ythmjdebnjcopnaa
/- The reference's gcm: the key of the great field, the tag. -/
namespace Go.Proofs.Ythmjdebnjcopnaa
open Go.RowKit

theorem run_load_key {w : World} {o : Oper} {ρ : Operand → Value} {x : Operand} {g : Nat} {v : Value} (hb : Blk w g 31 (keyV v)) (ho : o.op = .load 31 x) (hx : ρ x = .pointer (some ⟨g, 0, none⟩)) :
    (execOp ρ o).run Try.prog w = .ok (.value (.agg (keyV v).toArray)) w := by
  have h := run_loadVar_cells w ⟨g, 0, none⟩ 31 (keyV v) _ (blk_add hb) Try.underlying31 rfl (by rw [iKey, keyV_len])
  unfold execOp
  simp only [ho, hx, Instr.loadAt, Instr.sureAddr, Sem.run_bind, Sem.run_pure, Result.andThen_ok, h]
theorem run_load12 {w : World} {o : Oper} {ρ : Operand → Value} {x : Operand} {ad : Addr} {D : List Nat} (hD : D.length = 12) (hc : ∀ j v, (u8s D)[j]? = some v → w.cell? (ad.add j) = some v) (ho : o.op = .load 23 x) (hx : ρ x = .pointer (some ad)) :
    (execOp ρ o).run Try.prog w = .ok (.value (.agg (u8s D).toArray)) w := by
  have h := run_loadVar_cells w ad 23 (u8s D) _ hc Try.underlying23 rfl (by rw [i12]; simp [u8s, hD])
  unfold execOp
  simp only [ho, hx, Instr.loadAt, Instr.sureAddr, Sem.run_bind, Sem.run_pure, Result.andThen_ok, h]
/-- Sixteen bytes 0, laid out. -/
theorem lit16 : (u8s (nts gzero)).toArray = #[.int .u8 0, .int .u8 0, .int .u8 0, .int .u8 0, .int .u8 0, .int .u8 0, .int .u8 0, .int .u8 0, .int .u8 0, .int .u8 0, .int .u8 0, .int .u8 0, .int .u8 0, .int .u8 0, .int .u8 0, .int .u8 0] := rfl
set_option maxRecDepth 100000 in
set_option maxHeartbeats 2000000 in
theorem rhash_any {w : World} {W : List (List B8)} {v : Value} (hW : Wr w v W) (hl : W.length = 44 ∨ W.length = 60) :
    Calls Try.prog 20 #[.agg (keyV v).toArray] w fun e w' => e = .returned (.agg (u8s (nts (ghk W))).toArray) ∧ But (fun _ => False) w w' := by
  obtain ⟨F, hF⟩ : ∃ F, F = (keyV v).toArray := ⟨_, rfl⟩
  rw [← hF]
  obtain ⟨g, hg⟩ : ∃ g, g = w.heap.size := ⟨_, rfl⟩
  obtain ⟨W0, hW0⟩ : ∃ W0, W0 = ((w.alloc (.cells F 31)).alloc (.cells #[.int .u8 0, .int .u8 0, .int .u8 0, .int .u8 0, .int .u8 0, .int .u8 0, .int .u8 0, .int .u8 0, .int .u8 0, .int .u8 0, .int .u8 0, .int .u8 0, .int .u8 0, .int .u8 0, .int .u8 0, .int .u8 0] 44)) := ⟨_, rfl⟩
  have al : ∀ (x : World) (o : Obj), But (fun _ => False) x (x.alloc o) := fun x o => (But.refl _ x).alloc o
  have hT0 : But (fun _ => False) w W0 := by rw [hW0]; exact (al _ _).alloc _
  have HK0 : Hid (Blk W0 g 31 (keyV v)) := by rw [hW0, hF]; exact (Blk.new hg.symm).but (al _ _) (fun h => h)
  have HR0 : Hid (Blk W0 (g + 1) 44 (u8s (List.replicate 16 0))) := by rw [hW0]; exact Blk.new (by simp [hg])
  have HE := Hid.mk' (renc_any (b := gzero) (by simp [gzero]) (hW.but hT0 (fun _ _ h => h)) hl)
  have HT0 := Hid.mk' hT0
  have HG := Hid.mk' hg
  have HW0 := Hid.mk' hW0
  rw [lit16] at HE
  clear hF hg hW hl hT0 al hW0
  go_enter Try.func20, Try.ntmps20
  go_wp2_with (first
    | (rw [← HW0.out, ← HG.out]; refine wpList_load_key rfl _ rfl g rfl HK0.out ?_)
    | fail)
  refine Calls.mono HE.out ?_
  rintro e w1 ⟨rfl, hb1⟩
  have HR1 := Hid.mk' (HR0.out.but hb1 (fun h => h))
  have HT1 := Hid.mk' (HT0.out.trans hb1)
  obtain ⟨zs, hzs⟩ : ∃ zs, zs = nts (enc W gzero) := ⟨_, rfl⟩
  rw [← hzs]
  have HZL : Hid (zs.length = 16) := by show _ = _; rw [hzs, nts_len, enc_len]
  have HZS := Hid.mk' hzs
  clear hzs hb1 HE HR0 HT0 HW0
  go_wp2_with (refine wpList_store_u8s i16g rfl _ _ rfl (g + 1) zs HZL.out rfl (by exact rfl) _ (by simp [u8s]) HR1.out ?_; intro w9 hb9 hbut9)
  refine bodyPost_ret (results_cell_row rfl _ _ (g + 1) _ _ _ _ rfl hb9 Try.underlying44 rfl (by rw [i16g]; simp [u8s, HZL.out])) rfl ⟨?_, HT1.out.then hbut9 (fun j hj e => by have := HG.out; omega)⟩
  unfold ghk
  rw [← HZS.out]
set_option maxRecDepth 100000 in
set_option maxHeartbeats 2000000 in
theorem rtag_any {w : World} {nc : List B8} {W : List (List B8)} {v v1 v2 : Value} {xs ys : List Nat} (hn : nc.length = 12) (hW : Wr w v W) (hl : W.length = 44 ∨ W.length = 60) (h1 : Bs w v1 xs) (h2 : Bs w v2 ys) (l1 : xs.length ≤ 10000) (l2 : ys.length ≤ 10000) :
    Calls Try.prog 32 #[.agg (keyV v).toArray, .agg (u8s (nts nc)).toArray, v1, v2] w fun e w' => e = .returned (.agg (u8s (nts (gtag W nc xs ys))).toArray) ∧ But (fun _ => False) w w' := by
  have hz := zeroG
  obtain ⟨Z, hZ⟩ : ∃ Z, Z = (u8s (List.replicate 16 0)).toArray := ⟨_, rfl⟩
  rw [← hZ] at hz
  obtain ⟨C, hC⟩ : ∃ C, C = (u8s (nts nc)).toArray := ⟨_, rfl⟩
  obtain ⟨F, hF⟩ : ∃ F, F = (keyV v).toArray := ⟨_, rfl⟩
  rw [← hC, ← hF]
  obtain ⟨g, hg⟩ : ∃ g, g = w.heap.size := ⟨_, rfl⟩
  obtain ⟨W0, hW0⟩ : ∃ W0, W0 = (((w.alloc (.cells F 31)).alloc (.cells C 23)).alloc (.cells Z 44)) := ⟨_, rfl⟩
  have al : ∀ (x : World) (o : Obj), But (fun _ => False) x (x.alloc o) := fun x o => (But.refl _ x).alloc o
  have hT0 : But (fun _ => False) w W0 := by rw [hW0]; exact ((al _ _).alloc _).alloc _
  have HK0 : Hid (Blk W0 g 31 (keyV v)) := by rw [hW0, hF]; exact ((Blk.new hg.symm).but (al _ _) (fun h => h)).but (al _ _) (fun h => h)
  have HN0 : Hid (Blk W0 (g + 1) 23 (u8s (nts nc))) := by rw [hW0, hC]; exact (Blk.new (by simp [hg])).but (al _ _) (fun h => h)
  have HR0 : Hid (Blk W0 (g + 2) 44 (u8s (List.replicate 16 0))) := by rw [hW0, hZ]; exact Blk.new (by simp [hg])
  have HW := Hid.mk' (hW.but hT0 (fun _ _ h => h))
  have H1 := Hid.mk' (h1.but hT0 (fun _ _ _ h => h))
  have H2 := Hid.mk' (h2.but hT0 (fun _ _ _ h => h))
  have HT0 := Hid.mk' hT0
  have HG := Hid.mk' hg
  have HN := Hid.mk' hn
  have HNN : Hid ((nts nc).length = 12) := by show _ = _; rw [nts_len]; exact hn
  have HL := Hid.mk' hl
  have HW0 := Hid.mk' hW0
  clear hZ hC hF hn hW hl hW0 hT0 hg al h1 h2
  go_enter Try.func32, Try.ntmps32
  go_upto_region 1 with fail
  rw [← HW0.out, ← HG.out]
  refine region_class (l := [_, _, _, _, _, _, _, _, _]) (o := _) (fun w' => But (fun _ => False) W0 w') (by kernel_rfl) (by kernel_rfl) (by kernel_rfl) rfl (by kernel_rfl) (by kernel_rfl) ((But.refl _ W0).drew) ?_
  refine class_val (.agg (keyV v).toArray) rfl (fun w' hw' => run_load_key (HK0.out.but hw' (fun h => h)) rfl rfl) ?_
  intro K hK; go_simp; refine hK _ ?_; clear hK K
  refine class_call (.agg (u8s (nts (ghk W))).toArray) 20 #[.agg (keyV v).toArray] rfl (fun w' _ => by kernel_rfl) (fun w' hw' => (rhash_any (HW.out.but hw' (fun _ _ h => h)) HL.out).mono (fun r w'' h => ⟨h.1, hw'.trans h.2⟩)) ?_
  intro K hK; go_simp; refine hK _ ?_; clear hK K
  refine class_val _ rfl (fun w' _ => rfl) ?_
  intro K hK; go_simp; refine hK _ ?_; clear hK K
  refine class_val _ rfl (fun w' _ => rfl) ?_
  intro K hK; go_simp; refine hK _ ?_; clear hK K
  refine class_call (.agg (u8s (nts (gsum (ghk W) xs ys))).toArray) 53 #[.agg (u8s (nts (ghk W))).toArray, v1, v2] rfl (fun w' _ => by kernel_rfl) (fun w' hw' => (rgsum_any (ghk_len W) (H1.out.but hw' (fun _ _ _ h => h)) (H2.out.but hw' (fun _ _ _ h => h)) l1 l2).mono (fun r w'' h => ⟨h.1, hw'.trans h.2⟩)) ?_
  intro K hK; go_simp; refine hK _ ?_; clear hK K
  refine class_val (.agg (keyV v).toArray) rfl (fun w' hw' => run_load_key (HK0.out.but hw' (fun h => h)) rfl rfl) ?_
  intro K hK; go_simp; refine hK _ ?_; clear hK K
  refine class_val (.agg (u8s (nts nc)).toArray) rfl (fun w' hw' => run_load12 HNN.out (blk_add (HN0.out.but hw' (fun h => h))) rfl rfl) ?_
  intro K hK; go_simp; refine hK _ ?_; clear hK K
  refine class_call (.agg (u8s (nts (ctr W nc 1))).toArray) 51 #[.agg (keyV v).toArray, .agg (u8s (nts nc)).toArray, .int .i64 1] rfl (fun w' _ => by kernel_rfl) (fun w' hw' => (rcounter_any (n := 1) HN.out (HW.out.but hw' (fun _ _ h => h)) HL.out (by decide)).mono (fun r w'' h => ⟨h.1, hw'.trans h.2⟩)) ?_
  intro K hK; go_simp; refine hK _ ?_; clear hK K
  refine class_call (.agg (u8s (nts (gtag W nc xs ys))).toArray) 52 #[.agg (u8s (nts (gsum (ghk W) xs ys))).toArray, .agg (u8s (nts (ctr W nc 1))).toArray] rfl (fun w' _ => by kernel_rfl) (fun w' hw' => (rgadd_any (gsumN_len _ _ _) (ctr_len W nc 1)).mono (fun r w'' h => ⟨h.1, hw'.trans h.2⟩)) ?_
  intro K hK; go_simp; refine hK _ ?_; clear hK K
  refine wpQuiet_nil ?_
  intro w1 hw1
  have HR1 := Hid.mk' (HR0.out.but hw1 (fun h => h))
  have HT1 := Hid.mk' (HT0.out.trans hw1)
  obtain ⟨zs, hzs⟩ : ∃ zs, zs = nts (gtag W nc xs ys) := ⟨_, rfl⟩
  rw [← hzs]
  have HZL : Hid (zs.length = 16) := by show _ = _; rw [hzs, nts_len, gtag_len]
  have HZS := Hid.mk' hzs
  clear hzs hw1 HR0 HT0 HW0
  go_wp2_with (refine wpList_store_u8s i16g rfl _ _ rfl (g + 2) zs HZL.out rfl (by exact rfl) _ (by simp [u8s]) HR1.out ?_; intro w9 hb9 hbut9)
  refine bodyPost_ret (results_cell_row rfl _ _ (g + 2) _ _ _ _ rfl hb9 Try.underlying44 rfl (by rw [i16g]; simp [u8s, HZL.out])) rfl ⟨by rw [← HZS.out], HT1.out.then hbut9 (fun j hj e => by have := HG.out; omega)⟩
end Go.Proofs.Ythmjdebnjcopnaa
/- The reference's gcm: Seal. -/
namespace Go.Proofs.Ythmjdebnjcopnaa
open Go.RowKit

theorem append_bytes {w : World} {base : Nat} {v : Value} {zs ys : List Nat} {ad : Addr} {cap : Nat} (ty : TypeId) (hv : Ow w base v zs) (hc : ∀ j u, (u8s ys)[j]? = some u → w.cell? (ad.add j) = some u) (hy : ∀ z ∈ ys, z < 256) (hl : zs.length + ys.length ≤ 100000) (hb : base ≤ w.heap.size) :
    ∃ v' w', (Builtin.append_ #[22, 22] ty #[v, .slice (some ad) ys.length cap]).run Try.prog w = .ok v' w' ∧ Ow w' base v' (zs ++ ys) ∧ w.grownBy w' v.ownBlock := by
  obtain ⟨i0, hi, hz0, hz1, hz2⟩ := info_parts u8info
  obtain ⟨v', w', hr, ho, hg, _⟩ := run_append_own (P := Try.prog) w base 22 ty 5 i0 _ 1 1 Try.underlying22 hi hz0 hz1 hz2 (by simp [Value.cells]) (by decide) v zs.length (u8s zs) hv.own ad ys.length cap (u8s ys) (by simp [u8s]) hc (u8s_one _) (by unfold maxLen; omega) (by omega) hb
  refine ⟨v', w', hr, ⟨?_, by rw [List.length_append]; omega, ?_⟩, hg⟩
  · intro z hz
    rcases List.mem_append.1 hz with h | h
    · exact hv.lt z h
    · exact hy z h
  · rw [show u8s (zs ++ ys) = u8s zs ++ u8s ys by simp [u8s], List.length_append]
    exact ho
theorem slice16 (w : World) (g : Nat) : (Instr.sliceAt 44 (.pointer (some ⟨g, 0, none⟩)) none none none).run Try.prog w = .ok (.slice (some ⟨g, 0, none⟩) 16 16) w := by kernel_rfl
set_option maxRecDepth 100000 in
set_option maxHeartbeats 2000000 in
theorem rseal_any {w : World} {nc : List B8} {W : List (List B8)} {v v1 v2 : Value} {xs ys : List Nat} (hn : nc.length = 12) (hW : Wr w v W) (hl : W.length = 44 ∨ W.length = 60) (h1 : Bs w v1 xs) (h2 : Bs w v2 ys) (l1 : xs.length ≤ 10000) (l2 : ys.length ≤ 10000) :
    Calls Try.prog 15 #[.agg (keyV v).toArray, .agg (u8s (nts nc)).toArray, v1, v2] w fun e w' => ∃ v', e = .returned v' ∧ Ow w' w.heap.size v' (gseal W nc xs ys) ∧ But (fun _ => False) w w' := by
  have hz := zeroG
  obtain ⟨Z, hZ⟩ : ∃ Z, Z = (u8s (List.replicate 16 0)).toArray := ⟨_, rfl⟩
  rw [← hZ] at hz
  obtain ⟨C, hC⟩ : ∃ C, C = (u8s (nts nc)).toArray := ⟨_, rfl⟩
  obtain ⟨F, hF⟩ : ∃ F, F = (keyV v).toArray := ⟨_, rfl⟩
  rw [← hC, ← hF]
  obtain ⟨g, hg⟩ : ∃ g, g = w.heap.size := ⟨_, rfl⟩
  obtain ⟨W0, hW0⟩ : ∃ W0, W0 = ((w.alloc (.cells F 31)).alloc (.cells C 23)) := ⟨_, rfl⟩
  have al : ∀ (x : World) (o : Obj), But (fun _ => False) x (x.alloc o) := fun x o => (But.refl _ x).alloc o
  have hT0 : But (fun _ => False) w W0 := by rw [hW0]; exact (al _ _).alloc _
  have HK0 : Hid (Blk W0 g 31 (keyV v)) := by rw [hW0, hF]; exact (Blk.new hg.symm).but (al _ _) (fun h => h)
  have HN0 : Hid (Blk W0 (g + 1) 23 (u8s (nts nc))) := by rw [hW0, hC]; exact Blk.new (by simp [hg])
  have HT0 := Hid.mk' hT0
  have HE1 := Hid.mk' (rturned_any hn (hW.but hT0 (fun _ _ h => h)) hl (h2.but hT0 (fun _ _ _ h => h)) l2)
  have HWD := Hid.mk' (hW.but hT0 (fun _ _ h => h))
  have H1 := Hid.mk' (h1.but hT0 (fun _ _ _ h => h))
  have HG := Hid.mk' hg
  have HN := Hid.mk' hn
  have HNN : Hid ((nts nc).length = 12) := by show _ = _; rw [nts_len]; exact hn
  have HL := Hid.mk' hl
  have HZ := Hid.mk' hZ
  have HW0 := Hid.mk' hW0
  clear hZ hC hF hn hW hl hW0 hT0 hg al h1 h2
  go_enter Try.func15, Try.ntmps15
  go_wp2_with (first
    | (rw [← HW0.out, ← HG.out]; refine wpList_load_key rfl _ rfl g rfl HK0.out ?_)
    | (refine wpList_load_u8s Try.underlying23 i12 rfl _ rfl (g + 1) (nts nc) HNN.out rfl HN0.out ?_)
    | fail)
  refine Calls.mono HE1.out ?_
  rintro e w1 ⟨vo, rfl, ho1, hb1⟩
  obtain ⟨T, hT⟩ : ∃ T, T = gturn W nc ys := ⟨_, rfl⟩
  rw [← hT] at ho1
  have HTL : Hid (T.length ≤ 10000) := by rw [hT, gturn_len]; exact l2
  have HO1 := Hid.mk' ho1
  have HK1 := Hid.mk' (HK0.out.but hb1 (fun h => h))
  have HN1 := Hid.mk' (HN0.out.but hb1 (fun h => h))
  have HT1 := Hid.mk' (HT0.out.trans hb1)
  have HS1 := Hid.mk' hb1.size
  have HE2 := Hid.mk' (rtag_any HN.out (HWD.out.but hb1 (fun _ _ h => h)) HL.out (H1.out.but hb1 (fun _ _ _ h => h)) ho1.bs l1 HTL.out)
  have HTT := Hid.mk' hT
  clear ho1 hb1 hT HE1 HK0 HN0 HW0
  go_wp2_with (first
    | (refine wpList_load_key rfl _ rfl g rfl HK1.out ?_)
    | (refine wpList_load_u8s Try.underlying23 i12 rfl _ rfl (g + 1) (nts nc) HNN.out rfl HN1.out ?_)
    | fail)
  refine Calls.mono HE2.out ?_
  rintro e w2 ⟨rfl, hb2⟩
  obtain ⟨t, ht⟩ : ∃ t, t = nts (gtag W nc xs T) := ⟨_, rfl⟩
  rw [← ht]
  have HtL : Hid (t.length = 16) := by show _ = _; rw [ht, nts_len, gtag_len]
  have HtT : Hid (∀ z ∈ t, z < 256) := by rw [ht]; exact nts_lt _
  have HtE := Hid.mk' ht
  have HO2 := Hid.mk' (HO1.out.but hb2 (fun _ _ _ h => h))
  have HT2 := Hid.mk' (HT1.out.trans hb2)
  have HS2 := Hid.mk' (Nat.le_trans HS1.out hb2.size)
  obtain ⟨gt, hgt⟩ : ∃ gt, gt = w2.heap.size := ⟨_, rfl⟩
  have HGT := Hid.mk' hgt
  have HB0 : Hid (Blk (w2.alloc (.cells Z 44)) gt 44 (u8s (List.replicate 16 0))) := by rw [HZ.out]; exact Blk.new hgt.symm
  clear ht hb2 hgt HE2 HK1 HN1 HO1 HT1
  go_upto_region 3 with (first
    | (rw [← HGT.out]; refine wpList_store_u8s i16g rfl _ _ rfl gt t HtL.out rfl (by exact rfl) _ (by simp [u8s]) HB0.out ?_; intro w3 hb3 hbut3)
    | fail)
  have hal : But (fun _ => False) w2 w3 := ((But.refl _ w2).alloc (.cells Z 44)).then hbut3 (fun j hj e => by have := HGT.out; omega)
  have ho3 := HO2.out.but hal (fun _ _ _ h => h)
  obtain ⟨v', w4, hrun, ho4, hgr⟩ := append_bytes (ad := ⟨gt, 0, none⟩) (cap := 16) 22 ho3 (blk_add hb3) HtT.out (by rw [HtL.out]; have := HTL.out; omega) (Nat.le_trans HS2.out hal.size)
  rw [HtL.out] at hrun
  have hs16 := slice16 w3 gt
  have HRUN := Hid.mk' hrun
  have HO4 := Hid.mk' ho4
  have HGR := Hid.mk' (but_grown hgr)
  have HO3 := Hid.mk' ho3
  have HAL := Hid.mk' hal
  clear hrun ho4 hgr ho3 hal hb3 hbut3
  go_wp2_with (first
    | (refine wpList_append_ran rfl _ _ _ rfl vo (.slice (some ⟨gt, 0, none⟩) 16 16) rfl rfl HRUN.out ?_)
    | fail)
  go_ret
  refine ⟨v', rfl, ?_, ?_⟩
  · have h := HO4.out.mono HT0.out.size
    rw [HtE.out, HTT.out] at h
    exact h
  · refine (HT2.out.trans HAL.out).then HGR.out (fun j hj e => ?_)
    have h := (HO3.out.ge j e).1
    have := HT0.out.size
    omega
end Go.Proofs.Ythmjdebnjcopnaa
