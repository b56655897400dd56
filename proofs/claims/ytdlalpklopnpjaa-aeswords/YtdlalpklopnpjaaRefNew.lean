/- The reference's New. -/
import Derived.Test.YtdlalpklopnpjaaRefNewMem
namespace Go.Proofs.Ytdlalpklopnpjaa
open Go.RowKit

set_option maxRecDepth 100000 in
set_option maxHeartbeats 8000000 in
theorem rnew_own {w : World} {v : Value} {key : List B8} (hv : Bs w v (nts key)) (hl : key.length = 16 ∨ key.length = 32) :
    Calls Try.prog 11 #[v] w fun e w' => ∃ vW, e = .returned (.tuple #[.agg (keyV vW).toArray, .bool true]) ∧ (Wr w' vW (words key) ∧ ∀ j, vW.ownBlock = some j → w.heap.size ≤ j) ∧ But (fun _ => False) w w' := by
  have hz : ∀ w : World, (zeroValue 32).run Try.prog w = .ok (.agg zeroKey.toArray) w := fun _ => by kernel_rfl
  have hz2 : ∀ w : World, (zeroValue 30).run Try.prog w = .ok (.agg (u8s (List.replicate 256 0)).toArray) w := fun _ => by kernel_rfl
  obtain ⟨Z, hZ⟩ : ∃ Z, Z = zeroKey.toArray := ⟨_, rfl⟩
  obtain ⟨Y, hY⟩ : ∃ Y, Y = (u8s (List.replicate 256 0)).toArray := ⟨_, rfl⟩
  rw [← hZ] at hz
  rw [← hY] at hz2
  have HZ := Hid.mk' hZ
  have HY := Hid.mk' hY
  have HV := Hid.mk' hv
  obtain ⟨n, hn⟩ : ∃ n, n = key.length := ⟨_, rfl⟩
  obtain ⟨-, -, ⟨hnil, -⟩ | ⟨-, bb, off, cap, rfl, hcap, hbb, -⟩⟩ := hv
  · exfalso
    have := congrArg List.length hnil
    rw [nts_len, ← hn] at this
    simp at this
    omega
  rw [nts_len, ← hn] at HV ⊢
  rw [← hn] at hl
  have HN := Hid.mk' hn
  clear hZ hY hn hcap
  have HLL := Hid.mk' hl
  have hn32 : n ≤ 32 := by omega
  by_cases h16 : n = 16
  case' pos =>
    have e1 : ((n : Int) != 16) = false := by rw [h16]; rfl
    clear h16 hl
  case' neg =>
    have e1 : ((n : Int) != 16) = true := by simp; omega
    have e2 : ((n : Int) != 32) = false := by simp; omega
    clear h16 hl
  all_goals
    go_enter Try.func11, Try.ntmps11
    go_wp2_with fail
    obtain ⟨g, hg⟩ : ∃ g, g = w.heap.size := ⟨_, rfl⟩
    have HR0 : Hid (Blk ((w.alloc (.cells Z 32)).alloc (.cells Z 32)) g 32 zeroKey) := by
      rw [HZ.out]; exact (Blk.new hg.symm).but ((But.refl (fun _ => False) _).alloc _) (fun h => h)
    have HK0 : Hid (Blk ((w.alloc (.cells Z 32)).alloc (.cells Z 32)) (g + 1) 32 zeroKey) := by
      rw [HZ.out]; exact Blk.new (by simp [hg])
    have HBT0 : Hid (But (fun _ => False) w ((w.alloc (.cells Z 32)).alloc (.cells Z 32))) := ((But.refl _ w).alloc _).alloc _
    rw [← hg]
    generalize (w.alloc (.cells Z 32)).alloc (.cells Z 32) = W0 at *
    have HG := Hid.mk' hg
    clear hg hz HZ
    refine Calls.mono (rboxes_any W0) ?_
    rintro e w1 ⟨rfl, hbut1⟩
    have HR1 := Hid.mk' (HR0.out.but hbut1 (fun h => h))
    have HK1 := Hid.mk' (HK0.out.but hbut1 (fun h => h))
    have HBT1 := Hid.mk' (HBT0.out.trans hbut1)
    clear HR0 HK0 HBT0 hbut1
    obtain ⟨X, hX⟩ : ∃ X, X = nts allBx := ⟨_, rfl⟩
    obtain ⟨V, hV⟩ : ∃ V, V = nts allBk := ⟨_, rfl⟩
    have HXL : Hid (X.length = 256) := by show _ = _; rw [hX, nts_len, allBx_len]
    have HVL : Hid (V.length = 256) := by show _ = _; rw [hV, nts_len, allBk_len]
    rw [← hX, ← hV]
    have HX := Hid.mk' hX
    have HVE := Hid.mk' hV
    clear hX hV
    obtain ⟨gb, hgb⟩ : ∃ gb, gb = w1.heap.size := ⟨_, rfl⟩
    have HGB : Hid (g + 1 < gb) := by show _ < _; rw [hgb]; exact HK1.out.lt
    have H5 : Hid (Blk ((w1.alloc (.cells Y 30)).alloc (.cells Y 30)) w1.heap.size 30 (u8s (List.replicate 256 0))) := by
      rw [HY.out]; exact (Blk.new rfl).but ((But.refl (fun _ => False) _).alloc _) (fun h => h)
    have H6 : Hid (Blk ((w1.alloc (.cells Y 30)).alloc (.cells Y 30)) (w1.heap.size + 1) 30 (u8s (List.replicate 256 0))) := by
      rw [HY.out]; exact Blk.new (by simp)
    have HK2 : Hid (Blk ((w1.alloc (.cells Y 30)).alloc (.cells Y 30)) (g + 1) 32 zeroKey) := (HK1.out.but ((But.refl (fun _ => False) _).alloc _) (fun h => h)).but ((But.refl (fun _ => False) _).alloc _) (fun h => h)
    have HR2 : Hid (Blk ((w1.alloc (.cells Y 30)).alloc (.cells Y 30)) g 32 zeroKey) := (HR1.out.but ((But.refl (fun _ => False) _).alloc _) (fun h => h)).but ((But.refl (fun _ => False) _).alloc _) (fun h => h)
    have HBT2 : Hid (But (fun _ => False) w ((w1.alloc (.cells Y 30)).alloc (.cells Y 30))) := (HBT1.out.alloc _).alloc _
    have HQ : Hid (w1.heap.size = gb) := hgb.symm
    clear hgb HR1 HK1 HBT1
    have hq1 : Int.tdiv (n : Int) 4 = ((n / 4 : Nat) : Int) := by rw [Int.tdiv_eq_ediv_of_nonneg (by omega)]; omega
    have hq2 : (n : Int) / 4 = ((n / 4 : Nat) : Int) := by omega
    have HM4 : Hid (4 * (n / 4) = n ∧ (n / 4 = 4 ∨ n / 4 = 8)) := by show _ ∧ _; have := HLL.out; omega
    generalize n / 4 = m at *
    go_wp2_with (first
      | (refine wpList_store_u8s i256s rfl _ _ rfl w1.heap.size X HXL.out rfl (by exact rfl) _ (by simp [u8s]) H5.out ?_; intro w2 hb2 hbut2; have H62 := Hid.mk' (H6.out.but hbut2 (show ¬ (w1.heap.size + 1 = w1.heap.size) by omega)); have HK3 := Hid.mk' (HK2.out.but hbut2 (show ¬ (g + 1 = w1.heap.size) by have := HQ.out; have := HGB.out; omega)))
      | (refine wpList_store_u8s i256s rfl _ _ rfl (w1.heap.size + 1) V HVL.out rfl (by exact rfl) _ (by simp [u8s]) H62.out ?_; intro w3 hb3 hbut3; have HX3 := Hid.mk' (hb2.but hbut3 (show ¬ (w1.heap.size = w1.heap.size + 1) by omega)); have HK4 := Hid.mk' (HK3.out.but hbut3 (show ¬ (g + 1 = w1.heap.size + 1) by have := HQ.out; have := HGB.out; omega)))
      | (refine wpList_load_u8s Try.underlying30 i256s rfl _ rfl w1.heap.size X HXL.out rfl HX3.out ?_)
      | (refine wpList_store_at rfl _ _ _ rfl (g + 1) 1 (u8s X) rfl (by exact rfl) 32 [.slice none 0 0] (u8s (List.replicate 256 0)) (u8s (List.replicate 256 0)) HK4.out rfl (by simp [u8s, HXL.out]) (by rw [i256s]; simp [u8s, HXL.out]) (u8s_one X) ?_; intro w4 hb4 hbut4; have HV4 := Hid.mk' (hb3.but hbut4 (show ¬ (w1.heap.size + 1 = g + 1) by have := HQ.out; have := HGB.out; omega)))
      | (refine wpList_load_u8s Try.underlying30 i256s rfl _ rfl (w1.heap.size + 1) V HVL.out rfl HV4.out ?_)
      | (refine wpList_store_at rfl _ _ _ rfl (g + 1) 257 (u8s V) rfl (by exact rfl) 32 ([.slice none 0 0] ++ u8s X) (u8s (List.replicate 256 0)) [] (by rw [List.append_nil]; exact hb4) (by simp [u8s, HXL.out]) (by simp [u8s, HVL.out]) (by rw [i256s]; simp [u8s, HVL.out]) (u8s_one V) ?_; intro w5 hb5 hbut5)
      | fail)
    have HI5 : Hid (NewI w g gb (.slice none 0 0) [] w5) := by
      have hq := HQ.out
      have hgb := HGB.out
      rw [hq] at hb2 hbut2 hb3 hbut3 HX3
      refine ⟨?_, ?_, ?_, World.ownsRow_nil _ _ _ _, ?_, ?_⟩
      · exact (((HR2.out.but hbut2 (show ¬ (g = gb) by omega)).but hbut3 (show ¬ (g = gb + 1) by omega)).but hbut4 (show ¬ (g = g + 1) by omega)).but hbut5 (show ¬ (g = g + 1) by omega)
      · have h := hb5
        rw [List.append_nil, HX.out, HVE.out] at h
        exact h
      · have h := (HX3.out.but hbut4 (show ¬ (gb = g + 1) by omega)).but hbut5 (show ¬ (gb = g + 1) by omega)
        rw [HX.out] at h; exact h
      · have h1 : gb + 2 ≤ ((w1.alloc (.cells Y 30)).alloc (.cells Y 30)).heap.size := by simp; omega
        have h2 := hbut2.size
        have h3 := hbut3.size
        have h4 := hbut4.size
        have h5 := hbut5.size
        omega
      · have hg := HG.out
        exact (((HBT2.out.then hbut2 (fun i hi e => by omega)).then hbut3 (fun i hi e => by omega)).then hbut4 (fun i hi e => by omega)).then hbut5 (fun i hi e => by omega)
    rw [HQ.out]
    generalize Value.tuple #[Value.agg (u8s X).toArray, Value.agg (u8s V).toArray] = T1
    generalize (u8s X).toArray = XA
    generalize (u8s V).toArray = VA
    clear hb2 hbut2 hb3 hbut3 hb4 hbut4 hb5 hbut5 H5 H6 H62 HK2 HK3 HK4 HR2 HX3 HV4 HBT2 HQ HY hz2 HX HVE HXL HVL
    go_loopw [8] (fun i wr => ∃ (k : Nat) (vW : Value), k ≤ m ∧ i = .int .i64 k ∧ NewI w g gb vW ((List.range k).map (wordOf key)) wr) (fun i _ => m - (intOf i).toNat)
    case atStart => exact ⟨0, .slice none 0 0, by omega, rfl, HI5.out⟩
    case round =>
      obtain ⟨k, vW, hk, rfl, hI⟩ := hrel
      have HI := Hid.mk' hI
      clear hI HI5
      have hm8 := HM4.out
      by_cases hlt : k < m
      · have hki : (k : Int) < (m : Int) := by omega
        clear hm8
        obtain ⟨q0, hq0⟩ : ∃ q, q = 4 * k := ⟨_, rfl⟩
        obtain ⟨q1, hq1'⟩ : ∃ q, q = q0 + 1 := ⟨_, rfl⟩
        obtain ⟨q2, hq2'⟩ : ∃ q, q = q0 + 2 := ⟨_, rfl⟩
        obtain ⟨q3, hq3'⟩ : ∃ q, q = q0 + 3 := ⟨_, rfl⟩
        have hm8 := HM4.out
        have w0 : IntKind.i64.wrap (4 * (k : Int)) = (q0 : Int) := by rw [wrap_mid _ (by omega) (by omega)]; omega
        have w1' : IntKind.i64.wrap ((q0 : Int) + 1) = (q1 : Int) := by rw [wrap_mid _ (by omega) (by omega)]; omega
        have w2' : IntKind.i64.wrap ((q0 : Int) + 2) = (q2 : Int) := by rw [wrap_mid _ (by omega) (by omega)]; omega
        have w3' : IntKind.i64.wrap ((q0 : Int) + 3) = (q3 : Int) := by rw [wrap_mid _ (by omega) (by omega)]; omega
        have b0 : (q0 : Int) < (n : Int) := by omega
        have b1 : (q1 : Int) < (n : Int) := by omega
        have b2 : (q2 : Int) < (n : Int) := by omega
        have b3 : (q3 : Int) < (n : Int) := by omega
        have HQQ : Hid (q0 = 4 * k ∧ q1 = 4 * k + 1 ∧ q2 = 4 * k + 2 ∧ q3 = 4 * k + 3 ∧ q3 < key.length) := by rw [← HN.out]; show _ ∧ _ ; omega
        clear hm8 hq0 hq1' hq2' hq3'
        obtain ⟨x0, hx0⟩ : ∃ x, x = at8 key q0 := ⟨_, rfl⟩
        obtain ⟨x1, hx1⟩ : ∃ x, x = at8 key q1 := ⟨_, rfl⟩
        obtain ⟨x2, hx2⟩ : ∃ x, x = at8 key q2 := ⟨_, rfl⟩
        obtain ⟨x3, hx3⟩ : ∃ x, x = at8 key q3 := ⟨_, rfl⟩
        have HXX : Hid (x0 = at8 key q0 ∧ x1 = at8 key q1 ∧ x2 = at8 key q2 ∧ x3 = at8 key q3) := ⟨hx0, hx1, hx2, hx3⟩
        clear hx0 hx1 hx2 hx3
        go_wp2
        refine region_frame [some 38, some 39, some 40, some 41, some 42, some 43, some 44, some 45, some 46, some 47, some 48, some 49, some 50, some 51, some 52, some 53, some 54, some 55, some 56, some 57, some 58, some 59, some 60, some 61, some 62, some 63, some 64, some 65, some 66, none] (by kernel_rfl) [some (.pointer (some ⟨g + 1, 0, none⟩)), some (vW), some (.slice (some ⟨bb, off, none⟩) n cap), some (.int .i64 (k : Int)), some (.int .i64 (q0 : Int)), some (.pointer (some ⟨bb, off + q0, none⟩)), some (.int .u8 (b8 x0 : Int)), some (.slice (some ⟨bb, off, none⟩) n cap), some (.int .i64 (k : Int)), some (.int .i64 (q0 : Int)), some (.int .i64 (q1 : Int)), some (.pointer (some ⟨bb, off + q1, none⟩)), some (.int .u8 (b8 x1 : Int)), some (.slice (some ⟨bb, off, none⟩) n cap), some (.int .i64 (k : Int)), some (.int .i64 (q0 : Int)), some (.int .i64 (q2 : Int)), some (.pointer (some ⟨bb, off + q2, none⟩)), some (.int .u8 (b8 x2 : Int)), some (.slice (some ⟨bb, off, none⟩) n cap), some (.int .i64 (k : Int)), some (.int .i64 (q0 : Int)), some (.int .i64 (q3 : Int)), some (.pointer (some ⟨bb, off + q3, none⟩)), some (.int .u8 (b8 x3 : Int)), some (.agg #[.int .u8 (b8 x0 : Int), .int .u8 (b8 x1 : Int), .int .u8 (b8 x2 : Int), .int .u8 (b8 x3 : Int)]), none, none, some (.pointer (some ⟨g + 1, 0, none⟩)), none] (AppC 26 27 29 w g gb (.slice (some ⟨bb, off, none⟩) n cap) vW key ((List.range k).map (wordOf key)) [x0, x1, x2, x3]) (by kernel_rfl) (by kernel_rfl) (by kernel_rfl) (by kernel_rfl) (by kernel_rfl) (by kernel_rfl) ?_ ?_ ?_ ?_ ?_
        · intro f
          have h := HI.out
          exact ⟨h.res, h.box, (HV.out.but h.but (fun _ _ _ h => h)).but ((But.refl (fun _ => False) wr).drew) (fun _ _ _ h => h), h.size, h.but.drew, fun _ => h.key, nofun, fun _ => h.own, nofun, nofun⟩
        · intro i u d f wx hu hC
          refine hC.keep i u ?_ ?_ ?_ <;> (rintro rfl; cases hu)
        · intro ρ r0 r1 r2 i o u d f wx ho hu hdi hsh hC
          have E38 := r1 0 38 _ (by kernel_rfl) rfl
          have E39 := r1 1 39 _ (by kernel_rfl) rfl
          have E40 := r1 2 40 _ (by kernel_rfl) rfl
          have E41 := r1 3 41 _ (by kernel_rfl) rfl
          have E42 := r1 4 42 _ (by kernel_rfl) rfl
          have E43 := r1 5 43 _ (by kernel_rfl) rfl
          have E44 := r1 6 44 _ (by kernel_rfl) rfl
          have E45 := r1 7 45 _ (by kernel_rfl) rfl
          have E46 := r1 8 46 _ (by kernel_rfl) rfl
          have E47 := r1 9 47 _ (by kernel_rfl) rfl
          have E48 := r1 10 48 _ (by kernel_rfl) rfl
          have E49 := r1 11 49 _ (by kernel_rfl) rfl
          have E50 := r1 12 50 _ (by kernel_rfl) rfl
          have E51 := r1 13 51 _ (by kernel_rfl) rfl
          have E52 := r1 14 52 _ (by kernel_rfl) rfl
          have E53 := r1 15 53 _ (by kernel_rfl) rfl
          have E54 := r1 16 54 _ (by kernel_rfl) rfl
          have E55 := r1 17 55 _ (by kernel_rfl) rfl
          have E56 := r1 18 56 _ (by kernel_rfl) rfl
          have E57 := r1 19 57 _ (by kernel_rfl) rfl
          have E58 := r1 20 58 _ (by kernel_rfl) rfl
          have E59 := r1 21 59 _ (by kernel_rfl) rfl
          have E60 := r1 22 60 _ (by kernel_rfl) rfl
          have E61 := r1 23 61 _ (by kernel_rfl) rfl
          have E62 := r1 24 62 _ (by kernel_rfl) rfl
          have E63 := r1 25 63 _ (by kernel_rfl) rfl
          have E66 := r1 28 66 _ (by kernel_rfl) rfl
          have O0 : ρ (.tmp 0) = .slice (some ⟨bb, off, none⟩) n cap := r2 0 (by kernel_rfl)
          have O4 : ρ (.tmp 4) = .pointer (some ⟨g + 1, 0, none⟩) := r2 4 (by kernel_rfl)
          have O8 : ρ (.tmp 8) = .int .i64 (k : Int) := r2 8 (by kernel_rfl)
          have hxx := HXX.out
          have hqq := HQQ.out
          have k0 := key_cell hC.bytes q0 (by omega)
          have k1 := key_cell hC.bytes q1 (by omega)
          have k2 := key_cell hC.bytes q2 (by omega)
          have k3 := key_cell hC.bytes q3 (by omega)
          rw [← hxx.1] at k0
          rw [← hxx.2.1] at k1
          rw [← hxx.2.2.1] at k2
          rw [← hxx.2.2.2] at k3
          have kW : d 1 = false → wx.cell? ⟨g + 1, 0, none⟩ = some vW := by
            intro h1
            have h29 : d 29 = false := by
              cases h : d 29 with
              | false => rfl
              | true =>
                have h27 := hsh 29 _ 27 rfl (by kernel_rfl) h
                have := hsh 27 _ 1 rfl (by kernel_rfl) h27
                rw [h1] at this; cases this
            rw [(hC.key0 h29).cell]; rfl
          clear hxx hqq hC r1 r2 hsh
          match i with
          | 0 =>
            simp only [List.getElem?_toArray, List.getElem?_cons_zero, Option.some.injEq] at ho
            subst ho
            obtain rfl := Option.some.inj hu
            go_simp
          | 1 =>
            simp only [List.getElem?_toArray, List.getElem?_cons_succ, List.getElem?_cons_zero, Option.some.injEq] at ho
            subst ho
            obtain rfl := Option.some.inj hu
            go_simp
          | 2 =>
            simp only [List.getElem?_toArray, List.getElem?_cons_succ, List.getElem?_cons_zero, Option.some.injEq] at ho
            subst ho
            obtain rfl := Option.some.inj hu
            go_simp
          | 3 =>
            simp only [List.getElem?_toArray, List.getElem?_cons_succ, List.getElem?_cons_zero, Option.some.injEq] at ho
            subst ho
            obtain rfl := Option.some.inj hu
            go_simp
          | 4 =>
            simp only [List.getElem?_toArray, List.getElem?_cons_succ, List.getElem?_cons_zero, Option.some.injEq] at ho
            subst ho
            obtain rfl := Option.some.inj hu
            go_simp
          | 5 =>
            simp only [List.getElem?_toArray, List.getElem?_cons_succ, List.getElem?_cons_zero, Option.some.injEq] at ho
            subst ho
            obtain rfl := Option.some.inj hu
            go_simp
          | 6 =>
            simp only [List.getElem?_toArray, List.getElem?_cons_succ, List.getElem?_cons_zero, Option.some.injEq] at ho
            subst ho
            obtain rfl := Option.some.inj hu
            go_simp
          | 7 =>
            simp only [List.getElem?_toArray, List.getElem?_cons_succ, List.getElem?_cons_zero, Option.some.injEq] at ho
            subst ho
            obtain rfl := Option.some.inj hu
            go_simp
          | 8 =>
            simp only [List.getElem?_toArray, List.getElem?_cons_succ, List.getElem?_cons_zero, Option.some.injEq] at ho
            subst ho
            obtain rfl := Option.some.inj hu
            go_simp
          | 9 =>
            simp only [List.getElem?_toArray, List.getElem?_cons_succ, List.getElem?_cons_zero, Option.some.injEq] at ho
            subst ho
            obtain rfl := Option.some.inj hu
            go_simp
          | 10 =>
            simp only [List.getElem?_toArray, List.getElem?_cons_succ, List.getElem?_cons_zero, Option.some.injEq] at ho
            subst ho
            obtain rfl := Option.some.inj hu
            go_simp
          | 11 =>
            simp only [List.getElem?_toArray, List.getElem?_cons_succ, List.getElem?_cons_zero, Option.some.injEq] at ho
            subst ho
            obtain rfl := Option.some.inj hu
            go_simp
          | 12 =>
            simp only [List.getElem?_toArray, List.getElem?_cons_succ, List.getElem?_cons_zero, Option.some.injEq] at ho
            subst ho
            obtain rfl := Option.some.inj hu
            go_simp
          | 13 =>
            simp only [List.getElem?_toArray, List.getElem?_cons_succ, List.getElem?_cons_zero, Option.some.injEq] at ho
            subst ho
            obtain rfl := Option.some.inj hu
            go_simp
          | 14 =>
            simp only [List.getElem?_toArray, List.getElem?_cons_succ, List.getElem?_cons_zero, Option.some.injEq] at ho
            subst ho
            obtain rfl := Option.some.inj hu
            go_simp
          | 15 =>
            simp only [List.getElem?_toArray, List.getElem?_cons_succ, List.getElem?_cons_zero, Option.some.injEq] at ho
            subst ho
            obtain rfl := Option.some.inj hu
            go_simp
          | 16 =>
            simp only [List.getElem?_toArray, List.getElem?_cons_succ, List.getElem?_cons_zero, Option.some.injEq] at ho
            subst ho
            obtain rfl := Option.some.inj hu
            go_simp
          | 17 =>
            simp only [List.getElem?_toArray, List.getElem?_cons_succ, List.getElem?_cons_zero, Option.some.injEq] at ho
            subst ho
            obtain rfl := Option.some.inj hu
            go_simp
          | 18 =>
            simp only [List.getElem?_toArray, List.getElem?_cons_succ, List.getElem?_cons_zero, Option.some.injEq] at ho
            subst ho
            obtain rfl := Option.some.inj hu
            go_simp
          | 19 =>
            simp only [List.getElem?_toArray, List.getElem?_cons_succ, List.getElem?_cons_zero, Option.some.injEq] at ho
            subst ho
            obtain rfl := Option.some.inj hu
            go_simp
          | 20 =>
            simp only [List.getElem?_toArray, List.getElem?_cons_succ, List.getElem?_cons_zero, Option.some.injEq] at ho
            subst ho
            obtain rfl := Option.some.inj hu
            go_simp
          | 21 =>
            simp only [List.getElem?_toArray, List.getElem?_cons_succ, List.getElem?_cons_zero, Option.some.injEq] at ho
            subst ho
            obtain rfl := Option.some.inj hu
            go_simp
          | 22 =>
            simp only [List.getElem?_toArray, List.getElem?_cons_succ, List.getElem?_cons_zero, Option.some.injEq] at ho
            subst ho
            obtain rfl := Option.some.inj hu
            go_simp
          | 23 =>
            simp only [List.getElem?_toArray, List.getElem?_cons_succ, List.getElem?_cons_zero, Option.some.injEq] at ho
            subst ho
            obtain rfl := Option.some.inj hu
            go_simp
          | 24 =>
            simp only [List.getElem?_toArray, List.getElem?_cons_succ, List.getElem?_cons_zero, Option.some.injEq] at ho
            subst ho
            obtain rfl := Option.some.inj hu
            go_simp
          | 25 =>
            simp only [List.getElem?_toArray, List.getElem?_cons_succ, List.getElem?_cons_zero, Option.some.injEq] at ho
            subst ho
            obtain rfl := Option.some.inj hu
            go_simp
          | 26 =>
            cases hu
          | 27 =>
            cases hu
          | 28 =>
            simp only [List.getElem?_toArray, List.getElem?_cons_succ, List.getElem?_cons_zero, Option.some.injEq] at ho
            subst ho
            obtain rfl := Option.some.inj hu
            go_simp
          | 29 =>
            cases hu
          | j + 30 => cases hu
        · intro i o d f a wx ho hu hdi hsh hw hC hsee
          match i with
          | 26 =>
            obtain rfl := Option.some.inj ho
            have e63 := hsee.tab 25 63 _ (by kernel_rfl) (by kernel_rfl) rfl
            refine op_row1 29 _ _ _ rfl e63 (row4 _ _ _ _ wx) ?_
            refine ⟨_, rfl, ?_⟩
            have al : But (fun _ => False) wx (wx.alloc (.cells #[.int .u8 (b8 x0 : Int), .int .u8 (b8 x1 : Int), .int .u8 (b8 x2 : Int), .int .u8 (b8 x3 : Int)] 41)) := (But.refl _ wx).alloc _
            have c1 : upd d 26 true 27 = d 27 := rfl
            have c2 : upd d 26 true 29 = d 29 := rfl
            refine ⟨hC.res.but al (fun h => h), hC.box.but al (fun h => h), hC.bytes.but al (fun _ _ _ h => h), Nat.le_trans hC.size al.size, hC.but.trans al, fun e => (hC.key0 e).but al (fun h => h), fun e => (hC.key1 e).but al (fun h => h), fun e => (hC.own0 e).alloc _, fun e => (hC.own1 e).alloc _, fun _ _ => ⟨wx.heap.size, rfl, fun j u hj => ?_⟩⟩
            have hb : Blk (wx.alloc (.cells (u8s (nts [x0, x1, x2, x3])).toArray 41)) wx.heap.size 41 (u8s (nts [x0, x1, x2, x3])) := Blk.new rfl
            exact (hb.cell j).trans hj
          | 27 =>
            obtain rfl := Option.some.inj ho
            have e39 := hsee.tab 1 39 _ (by kernel_rfl) (by kernel_rfl) rfl
            have e64 := hsee.dep 26 64 (by kernel_rfl) (by kernel_rfl)
            obtain ⟨h, hf, hcells⟩ := hC.lit (hw 26 (by kernel_rfl)) hdi
            obtain ⟨i0, hi0, hz0, hz1, hz2⟩ := info_parts info4
            have hown := hC.own0 hdi
            have hm8 := HM4.out
            refine wp_append_own wx _ _ 29 rfl (gb + 2) 41 i0 _ 4 4 Try.underlying29 hi0 hz0 hz1 hz2 rfl (by decide) vW _ _ e39 hown ⟨h, 0, none⟩ 1 1 (u8s (nts [x0, x1, x2, x3])) (e64.trans hf) rfl (fun j u hj => add_cell (hcells j u hj)) (u8s_one _) (by unfold maxLen; simp; omega) (by simp; omega) hC.size ?_
            intro v' w' hown' hgr _
            refine ⟨v', rfl, ?_⟩
            have hlt := hown.lt
            have hk : But (fun j => vW.ownBlock = some j) wx w' := ⟨hgr.os, hgr.tape, hgr.output, hgr.size, fun j hj hn => hgr.block j hj (fun e => hn e.symm)⟩
            have n0 : ∀ j, j < gb + 2 → ¬ (vW.ownBlock = some j) := fun j hj e => by have := (hlt j e).1; omega
            have hgb := HGB.out
            have hg := HG.out
            refine ⟨hC.res.but hk (n0 g (by omega)), hC.box.but hk (n0 gb (by omega)), hC.bytes.but hk (fun j hj _ => ?_), Nat.le_trans hC.size hgr.size, hC.but.then hk (fun j hj e => absurd e (n0 j (by omega))), fun e => (hC.key0 e).but hk (n0 (g + 1) (by omega)), fun e => ?_, nofun, fun _ => hown', nofun⟩
            · obtain rfl : bb = j := by simpa [Value.ownBlock] using hj
              exact n0 bb (by omega)
            · exfalso
              have h27 := hsh 29 _ 27 rfl (by kernel_rfl) e
              rw [hdi] at h27; cases h27
          | 29 =>
            obtain rfl := Option.some.inj ho
            have e66 := hsee.tab 28 66 _ (by kernel_rfl) (by kernel_rfl) rfl
            have e65 := hsee.dep 27 65 (by kernel_rfl) (by kernel_rfl)
            have h27 := hw 27 (by kernel_rfl)
            have hown := hC.own1 h27
            have hlt := hown.lt
            have hgb := HGB.out
            have hg := HG.out
            have hkey := hC.key0 hdi
            obtain ⟨_, ⟨_, h0⟩ | ⟨gr, cp, cur, hv27, hgr, _⟩⟩ := hown
            · omega
            · rw [hv27] at e65
              refine op_store_slice (by kernel_rfl) _ _ rfl (g + 1) 0 _ _ _ e66 e65 32 [] _ vW hkey rfl ?_
              intro w' hb' hbut'
              refine ⟨undef, rfl, ?_⟩
              refine ⟨hC.res.but hbut' (show ¬ (g = g + 1) by omega), hC.box.but hbut' (show ¬ (gb = g + 1) by omega), hC.bytes.but hbut' (fun j hj _ e => ?_), Nat.le_trans hC.size hbut'.size, hC.but.then hbut' (fun j hj e => by omega), nofun, fun _ => ?_, fun e => (hC.own0 e).kept ⟨hbut'.os, hbut'.tape, hbut'.output, hbut'.size, fun j hj hn => hbut'.block j hj (fun e => hn (by rw [e]))⟩ (.inr (fun e2 => ?_)), fun e => (hC.own1 e).kept ⟨hbut'.os, hbut'.tape, hbut'.output, hbut'.size, fun j hj hn => hbut'.block j hj (fun e => hn (by rw [e]))⟩ (.inr (fun e2 => ?_)), fun _ e => ?_⟩
              · obtain rfl : bb = j := by simpa [Value.ownBlock] using hj
                omega
              · show Blk w' (g + 1) _ (keyV (f 27))
                rw [hv27]; exact hb'
              · rw [show upd d 29 true 27 = d 27 from rfl, h27] at e; cases e
              · have e3 : (f 27).ownBlock = some (g + 1) := e2
                have := (hlt _ e3).1; omega
              · rw [show upd d 29 true 27 = d 27 from rfl, h27] at e; cases e
          | 0 => cases hu
          | 1 => cases hu
          | 2 => cases hu
          | 3 => cases hu
          | 4 => cases hu
          | 5 => cases hu
          | 6 => cases hu
          | 7 => cases hu
          | 8 => cases hu
          | 9 => cases hu
          | 10 => cases hu
          | 11 => cases hu
          | 12 => cases hu
          | 13 => cases hu
          | 14 => cases hu
          | 15 => cases hu
          | 16 => cases hu
          | 17 => cases hu
          | 18 => cases hu
          | 19 => cases hu
          | 20 => cases hu
          | 21 => cases hu
          | 22 => cases hu
          | 23 => cases hu
          | 24 => cases hu
          | 25 => cases hu
          | 28 => cases hu
          | j + 30 => cases ho
        · intro f wx hC hval
          have hkey := hC.key1 rfl
          have hown := hC.own1 rfl
          have HNI : Hid (NewI w g gb (f 27) ((List.range (k + 1)).map (wordOf key)) wx) := by
            have hxx := HXX.out
            have hqq := HQQ.out
            have e : [x0, x1, x2, x3] = wordOf key k := by
              unfold wordOf
              rw [hxx.1, hxx.2.1, hxx.2.2.1, hxx.2.2.2, hqq.1, hqq.2.1, hqq.2.2.1, hqq.2.2.2.1]
            have e2 : (List.range (k + 1)).map (wordOf key) = (List.range k).map (wordOf key) ++ [wordOf key k] := by rw [List.range_succ, List.map_append]; rfl
            refine ⟨hC.res, hkey, hC.box, ?_, hC.size, hC.but⟩
            rw [e2, ← e, List.length_append, List.flatten_append]
            simpa [nts, u8s] using hown
          clear hC hkey hown hval
          simp only [putL]
          go_wp2
          exact ⟨⟨k + 1, f 27, by omega, by go_num, HNI.out⟩, by simp [intOf]; omega⟩
      · have hkm : m = k := by omega
        subst hkm
        have HI0 : Hid (NewI w g gb vW (kws key m 0) wr) := HI.out
        have hki : ¬ ((m : Int) < (m : Int)) := by omega
        have hm8b : m ≤ 8 := by omega
        have hm4b : 4 ≤ m := by omega
        clear hm8 HI hlt hk hq1 hq2 e1
        obtain ⟨wo, hwo⟩ : ∃ wo, wo = wr := ⟨_, rfl⟩
        subst hwo
        go_wp2
        go_loopw [9] (fun i wr => ∃ (j : Nat) (vW : Value), j ≤ 3 * m + 28 ∧ i = .int .i64 (m + j : Nat) ∧ NewI w g gb vW (kws key m j) wr) (fun i _ => 100 - (intOf i).toNat)
        case atStart => exact ⟨0, vW, by omega, rfl, HI0.out⟩
        case round =>
          obtain ⟨j, vX, hj, rfl, hI⟩ := hrel
          obtain ⟨W, hW⟩ : ∃ W, W = kws key m j := ⟨_, rfl⟩
          obtain ⟨I, hI'⟩ : ∃ I, I = m + j := ⟨_, rfl⟩
          rw [← hW] at hI
          rw [← hI']
          have hWl : W.length = I := by rw [hW, kws_len, hI']
          have hW4 : ∀ x ∈ W, x.length = 4 := by rw [hW]; exact kws_four _ _ _
          obtain ⟨gr, cp, rfl, hgr1, hgr2, hcl⟩ := hI.rows hW4 (by omega)
          rw [hWl] at hI
          have hcl' : ∀ i j, i < I → j < 4 → wr.cell? ⟨gr, 4 * i + j, none⟩ = some (.int .u8 (b8 (at8 (W.getD i []) j) : Nat)) := fun i j hi hj => hcl i j (by rw [hWl]; exact hi) hj
          have HI := Hid.mk' hI
          have HWE := Hid.mk' hW
          have HIE := Hid.mk' hI'
          have HWL := Hid.mk' hWl
          have HW4 := Hid.mk' hW4
          have HCL := Hid.mk' hcl'
          have HJ := Hid.mk' hj
          have HGR := Hid.mk' hgr1
          have HGR2 := Hid.mk' hgr2
          clear HI0 hI hW hI' hW4 hcl hcl' hj hgr1 hgr2 hWl
          by_cases hlt : j < 3 * m + 28
          · have hie := HIE.out
            have t1 : (I : Int) < 4 * ((m : Int) + 7) := by omega
            obtain ⟨I1, hI1⟩ : ∃ I1, I1 = I - 1 := ⟨_, rfl⟩
            have d1 : (I : Int) - 1 = (I1 : Int) := by omega
            have d2 : (I1 : Int) < (I : Int) := by omega
            have hI64 : I ≤ 64 := by omega
            have hI11 : I1 < I := by omega
            have c0 : wr.cell? ⟨g + 1, 0, none⟩ = some (.slice (some ⟨gr, 0, none⟩) I cp) := by rw [HI.out.key.cell]; rfl
            obtain ⟨t, ht⟩ : ∃ t, t = W.getD I1 [] := ⟨_, rfl⟩
            have htl : t.length = 4 := by
              rw [ht]
              have h1 : I1 < W.length := by rw [HWL.out]; exact hI11
              have e : W.getD I1 [] = W[I1] := by simp [List.getD, h1]
              rw [e]; exact HW4.out _ (List.getElem_mem h1)
            have HTC : Hid (∀ j u, (u8s (nts t))[j]? = some u → wr.cell? ((⟨gr, I1 * 4, none⟩ : Addr).add j) = some u) :=
              word_cells htl (fun j hj => by rw [ht]; exact HCL.out I1 j hI11 hj)
            have HTL := Hid.mk' htl
            have HT := Hid.mk' ht
            have HI1E := Hid.mk' hI1
            clear hie ht htl hI1
            have hrm : Int.tmod (I : Int) (m : Int) = ((I % m : Nat) : Int) := by rw [Int.tmod_eq_emod_of_nonneg (by omega)]; rfl
            obtain ⟨g10, hg10⟩ : ∃ g10, g10 = wr.heap.size := ⟨_, rfl⟩
            have H10 : Hid (Blk (wr.alloc (.cells #[.int .u8 0, .int .u8 0, .int .u8 0, .int .u8 0] 41)) g10 41 (u8s [0, 0, 0, 0])) := Blk.new hg10.symm
            have HK10 : Hid (g + 1 < g10 ∧ gb < g10 ∧ (Value.slice (some ⟨gr, 0, none⟩) I cp).ownBlock ≠ some g10) := by
              rw [hg10]
              refine ⟨HI.out.key.lt, HI.out.box.lt, fun e => ?_⟩
              have e2 : gr = wr.heap.size := by simpa [Value.ownBlock] using e
              have := HGR2.out
              omega
            have HG10 := Hid.mk' hg10
            clear hg10
            by_cases hA : I % m = 0
            case' pos =>
              rw [hA] at hrm
              obtain ⟨q, hq⟩ : ∃ q, q = I / m := ⟨_, rfl⟩
              have hq1 : 1 ≤ q := by rw [hq]; exact (Nat.le_div_iff_mul_le (by omega)).2 (by have := HIE.out; omega)
              have hq2 : q ≤ I := by rw [hq]; exact Nat.div_le_self _ _
              obtain ⟨pp, hpp⟩ : ∃ pp, pp = q - 1 := ⟨_, rfl⟩
              have y1 : Int.tdiv (I : Int) (m : Int) = (q : Int) := by rw [Int.tdiv_eq_ediv_of_nonneg (by omega), hq]; rfl
              have y2 : IntKind.i64.wrap (q : Int) = (q : Int) := wrap_mid _ (by omega) (by omega)
              have y3 : IntKind.i64.wrap ((q : Int) - 1) = (pp : Int) := by rw [wrap_mid _ (by omega) (by omega)]; omega
              obtain ⟨P2, hP2⟩ : ∃ P2, P2 = pw 2#8 (I / m - 1) := ⟨_, rfl⟩
              have HPW : Hid (∀ w, Calls Try.prog 22 #[.int .u8 2, .int .i64 (pp : Int)] w fun e w' => e = .returned (.int .u8 (b8 P2 : Nat)) ∧ w' = w) := by
                intro w
                have h := rpower_any 2#8 (pp : Int) (by omega) (by omega) w
                rw [show ((pp : Int)).toNat = I / m - 1 by omega, ← hP2] at h
                exact h
              have HP2 := Hid.mk' hP2
              have hm0 : ¬ ((m : Int) = 0) := by omega
              have hm0' : ((m : Int) == 0) = false := by simp; omega
              have hm0'' : ¬ (m = 0) := by omega
              clear hq hpp hP2
              go_wp2_with (first
                | (refine wpList_load_cells rfl 41 _ rfl ⟨gr, I1 * 4, none⟩ rfl (u8s (nts t)) _ HTC.out Try.underlying41 rfl (by rw [i4s]; simp [u8s, nts_len, HTL.out]) ?_)
                | (refine wpList_store_u8s i4s rfl _ _ rfl wr.heap.size (nts t) (by rw [nts_len]; exact HTL.out) rfl (by exact rfl) _ rfl (HG10.out ▸ H10.out) ?_; intro w10 hb10 hbut10)
                | fail)
              rw [← HG10.out] at hb10 hbut10 ⊢
              have HI10 : Hid (NewI w g gb (.slice (some ⟨gr, 0, none⟩) I cp) W w10) := (HI.out.then ((But.refl _ _).alloc _)).put HG.out HK10.out.1 HK10.out.2.1 HK10.out.2.2 hbut10
              have H10t := Hid.mk' hb10
              clear hb10 hbut10
              have k0 := blk_nts H10t.out 0 (by rw [HTL.out]; decide)
              have k1 := blk_nts H10t.out 1 (by rw [HTL.out]; decide)
              have k2 := blk_nts H10t.out 2 (by rw [HTL.out]; decide)
              have k3 := blk_nts H10t.out 3 (by rw [HTL.out]; decide)
              have bxc : ∀ x : B8, w10.cell? ⟨gb, b8 x, none⟩ = some (.int .u8 (b8 (bx x) : Nat)) := fun x => by
                rw [blk_nts HI10.out.box (b8 x) (by rw [allBx_len]; exact b8_lt x), allBx_at]
              have m0 := bxc (at8 t 0)
              have m1 := bxc (at8 t 1)
              have m2 := bxc (at8 t 2)
              have m3 := bxc (at8 t 3)
              have s0 := b8_lt (at8 t 0)
              have s1 := b8_lt (at8 t 1)
              have s2 := b8_lt (at8 t 2)
              have s3 := b8_lt (at8 t 3)
              clear bxc
              generalize hT0 : at8 t 0 = T0 at *
              generalize hT1' : at8 t 1 = T1' at *
              generalize hT2 : at8 t 2 = T2 at *
              generalize hT3 : at8 t 3 = T3 at *
              have HTS : Hid (at8 t 0 = T0 ∧ at8 t 1 = T1' ∧ at8 t 2 = T2 ∧ at8 t 3 = T3) := ⟨hT0, hT1', hT2, hT3⟩
              have i0 : (b8 T0 : Int) < 256 := by omega
              have i1 : (b8 T1' : Int) < 256 := by omega
              have i2 : (b8 T2 : Int) < 256 := by omega
              have i3 : (b8 T3 : Int) < 256 := by omega
              clear hT0 hT1' hT2 hT3
              have hxor := xor_b8 (bx T1') P2
              obtain ⟨TT, hTT⟩ : ∃ TT, TT = [bx T1' ^^^ P2, bx T2, bx T3, bx T0] := ⟨_, rfl⟩
              refine region_ends (l := [_, _, _, _, _, _, _, _, _, _, _, _, _, _, _, _, _, _, _, _, _, _, _]) (o := _) (by kernel_rfl) (by kernel_rfl) (by kernel_rfl) rfl (by kernel_rfl) (by kernel_rfl) ?_
              repeat (quiet_step ((go_at_call 22; exact Calls.quiet_of_same (HPW.out _))))
              refine wpQuiet_nil ?_
              intro _ hw'
              obtain ⟨nq, hw''⟩ := hw'
              subst hw''
              have HTTL : Hid ((nts TT).length = 4) := by rw [hTT]; exact rfl
              have HTE : Hid (TT = turned m I t) := by
                have hts := HTS.out
                unfold turned
                rw [if_pos hA, hts.1, hts.2.1, hts.2.2.1, hts.2.2.2, hTT, HP2.out]; exact rfl
              go_wp2_with (first
                | (refine wpList_store_u8s i4s rfl _ _ rfl g10 (nts TT) HTTL.out rfl (by rw [hTT]; exact rfl) _ (by unfold u8s; rw [List.length_map, nts_len]; exact HTL.out) (show Blk (w10.drewN nq) g10 41 (u8s (nts t)) from H10t.out) ?_; intro wT hbT hbutT)
                | fail)
              have HIT : Hid (NewI w g gb (.slice (some ⟨gr, 0, none⟩) I cp) W wT) := (HI10.out.then (w' := w10.drewN nq) (But.refl (fun _ => False) w10).drewN).put HG.out HK10.out.1 HK10.out.2.1 HK10.out.2.2 hbutT
              have HTT := Hid.mk' hbT
              clear hbT hbutT HI10 H10t k0 k1 k2 k3 m0 m1 m2 m3 s0 s1 s2 s3 i0 i1 i2 i3 hTT
              clear hxor hrm
            case' neg =>
              have hrm2 : (((I % m : Nat) : Int) == 0) = false := by simp; omega
              have hr8 : Int.tmod (I : Int) 8 = ((I % 8 : Nat) : Int) := by rw [Int.tmod_eq_emod_of_nonneg (by omega)]; rfl
              have HNA := Hid.mk' hA
              clear hA
              generalize hrr : I % m = rr at hrm hrm2
              by_cases hB : m = 8 ∧ I % 8 = 4
              case' pos =>
                have e8 : ((m : Int) == 8) = true := by rw [hB.1]; rfl
                have e4 : (((I % 8 : Nat) : Int) == 4) = true := by rw [hB.2]; rfl
                have HBB := Hid.mk' hB
                clear hB
                generalize hr8' : I % 8 = r8 at hr8 e4
                go_wp2_with (first
                  | (refine wpList_load_cells rfl 41 _ rfl ⟨gr, I1 * 4, none⟩ rfl (u8s (nts t)) _ HTC.out Try.underlying41 rfl (by rw [i4s]; simp [u8s, nts_len, HTL.out]) ?_)
                  | (refine wpList_store_u8s i4s rfl _ _ rfl wr.heap.size (nts t) (by rw [nts_len]; exact HTL.out) rfl (by exact rfl) _ rfl (HG10.out ▸ H10.out) ?_; intro w10 hb10 hbut10)
                  | fail)
                rw [← HG10.out] at hb10 hbut10 ⊢
                have HI10 : Hid (NewI w g gb (.slice (some ⟨gr, 0, none⟩) I cp) W w10) := (HI.out.then ((But.refl _ _).alloc _)).put HG.out HK10.out.1 HK10.out.2.1 HK10.out.2.2 hbut10
                have H10t := Hid.mk' hb10
                clear hb10 hbut10
                have k0 := blk_nts H10t.out 0 (by rw [HTL.out]; decide)
                have k1 := blk_nts H10t.out 1 (by rw [HTL.out]; decide)
                have k2 := blk_nts H10t.out 2 (by rw [HTL.out]; decide)
                have k3 := blk_nts H10t.out 3 (by rw [HTL.out]; decide)
                have bxc : ∀ x : B8, w10.cell? ⟨gb, b8 x, none⟩ = some (.int .u8 (b8 (bx x) : Nat)) := fun x => by
                  rw [blk_nts HI10.out.box (b8 x) (by rw [allBx_len]; exact b8_lt x), allBx_at]
                have m0 := bxc (at8 t 0)
                have m1 := bxc (at8 t 1)
                have m2 := bxc (at8 t 2)
                have m3 := bxc (at8 t 3)
                have s0 := b8_lt (at8 t 0)
                have s1 := b8_lt (at8 t 1)
                have s2 := b8_lt (at8 t 2)
                have s3 := b8_lt (at8 t 3)
                clear bxc
                generalize hT0 : at8 t 0 = T0 at *
                generalize hT1' : at8 t 1 = T1' at *
                generalize hT2 : at8 t 2 = T2 at *
                generalize hT3 : at8 t 3 = T3 at *
                have HTS : Hid (at8 t 0 = T0 ∧ at8 t 1 = T1' ∧ at8 t 2 = T2 ∧ at8 t 3 = T3) := ⟨hT0, hT1', hT2, hT3⟩
                have i0 : (b8 T0 : Int) < 256 := by omega
                have i1 : (b8 T1' : Int) < 256 := by omega
                have i2 : (b8 T2 : Int) < 256 := by omega
                have i3 : (b8 T3 : Int) < 256 := by omega
                clear hT0 hT1' hT2 hT3
                obtain ⟨TT, hTT⟩ : ∃ TT, TT = [bx T0, bx T1', bx T2, bx T3] := ⟨_, rfl⟩
                refine region_ends (l := [_, _, _, _, _, _, _, _, _, _, _, _, _, _, _, _, _]) (o := _) (by kernel_rfl) (by kernel_rfl) (by kernel_rfl) rfl (by kernel_rfl) (by kernel_rfl) ?_
                repeat (quiet_step (fail))
                refine wpQuiet_nil ?_
                intro _ hw'
                obtain ⟨nq, hw''⟩ := hw'
                subst hw''
                have HTTL : Hid ((nts TT).length = 4) := by rw [hTT]; exact rfl
                have HTE : Hid (TT = turned m I t) := by
                  have hts := HTS.out
                  unfold turned
                  rw [if_neg HNA.out, if_pos HBB.out, hts.1, hts.2.1, hts.2.2.1, hts.2.2.2]; exact hTT
                go_wp2_with (first
                  | (refine wpList_store_u8s i4s rfl _ _ rfl g10 (nts TT) HTTL.out rfl (by rw [hTT]; exact rfl) _ (by unfold u8s; rw [List.length_map, nts_len]; exact HTL.out) (show Blk (w10.drewN nq) g10 41 (u8s (nts t)) from H10t.out) ?_; intro wT hbT hbutT)
                  | fail)
                have HIT : Hid (NewI w g gb (.slice (some ⟨gr, 0, none⟩) I cp) W wT) := (HI10.out.then (w' := w10.drewN nq) (But.refl (fun _ => False) w10).drewN).put HG.out HK10.out.1 HK10.out.2.1 HK10.out.2.2 hbutT
                have HTT := Hid.mk' hbT
                clear hbT hbutT HI10 H10t k0 k1 k2 k3 m0 m1 m2 m3 s0 s1 s2 s3 i0 i1 i2 i3 hTT
                clear e8 e4 hr8 hrm hrm2

              case' neg =>
                by_cases hm8' : m = 8
                case' pos =>
                  have e8 : ((m : Int) == 8) = true := by rw [hm8']; rfl
                  have e4 : (((I % 8 : Nat) : Int) == 4) = false := by
                    rw [beq_eq_false_iff_ne]; intro e; exact hB ⟨hm8', by omega⟩
                  have HB := Hid.mk' hB
                  clear hB hm8'
                  generalize hr8' : I % 8 = r8 at hr8 e4
                  go_wp2_with (first
                    | (refine wpList_load_cells rfl 41 _ rfl ⟨gr, I1 * 4, none⟩ rfl (u8s (nts t)) _ HTC.out Try.underlying41 rfl (by rw [i4s]; simp [u8s, nts_len, HTL.out]) ?_)
                    | (refine wpList_store_u8s i4s rfl _ _ rfl wr.heap.size (nts t) (by rw [nts_len]; exact HTL.out) rfl (by exact rfl) _ rfl (HG10.out ▸ H10.out) ?_; intro w10 hb10 hbut10)
                    | fail)
                  rw [← HG10.out] at hb10 hbut10 ⊢
                  have HI10 : Hid (NewI w g gb (.slice (some ⟨gr, 0, none⟩) I cp) W w10) := (HI.out.then ((But.refl _ _).alloc _)).put HG.out HK10.out.1 HK10.out.2.1 HK10.out.2.2 hbut10
                  have H10t := Hid.mk' hb10
                  clear hb10 hbut10
                  obtain ⟨TT, hTT⟩ : ∃ TT, TT = t := ⟨_, rfl⟩
                  obtain ⟨wT, hwT⟩ : ∃ wT, wT = w10 := ⟨_, rfl⟩
                  rw [← hwT] at HI10 H10t ⊢
                  have HIT := HI10
                  have HTTL : Hid ((nts TT).length = 4) := by rw [hTT, nts_len]; exact HTL.out
                  have HTT : Hid (Blk wT g10 41 (u8s (nts TT))) := by rw [hTT]; exact H10t.out
                  have HTE : Hid (TT = turned m I t) := by
                    unfold turned
                    rw [if_neg HNA.out, if_neg HB.out]; exact hTT
                  clear hwT HI10 H10t hTT
                  clear e8 e4 hr8 hrm hrm2
                case' neg =>
                  have e8 : ((m : Int) == 8) = false := by
                    rw [beq_eq_false_iff_ne]; intro e; exact hm8' (by omega)
                  have HB := Hid.mk' hB
                  clear hB hm8'
                  go_wp2_with (first
                    | (refine wpList_load_cells rfl 41 _ rfl ⟨gr, I1 * 4, none⟩ rfl (u8s (nts t)) _ HTC.out Try.underlying41 rfl (by rw [i4s]; simp [u8s, nts_len, HTL.out]) ?_)
                    | (refine wpList_store_u8s i4s rfl _ _ rfl wr.heap.size (nts t) (by rw [nts_len]; exact HTL.out) rfl (by exact rfl) _ rfl (HG10.out ▸ H10.out) ?_; intro w10 hb10 hbut10)
                    | fail)
                  rw [← HG10.out] at hb10 hbut10 ⊢
                  have HI10 : Hid (NewI w g gb (.slice (some ⟨gr, 0, none⟩) I cp) W w10) := (HI.out.then ((But.refl _ _).alloc _)).put HG.out HK10.out.1 HK10.out.2.1 HK10.out.2.2 hbut10
                  have H10t := Hid.mk' hb10
                  clear hb10 hbut10
                  obtain ⟨TT, hTT⟩ : ∃ TT, TT = t := ⟨_, rfl⟩
                  obtain ⟨wT, hwT⟩ : ∃ wT, wT = w10 := ⟨_, rfl⟩
                  rw [← hwT] at HI10 H10t ⊢
                  have HIT := HI10
                  have HTTL : Hid ((nts TT).length = 4) := by rw [hTT, nts_len]; exact HTL.out
                  have HTT : Hid (Blk wT g10 41 (u8s (nts TT))) := by rw [hTT]; exact H10t.out
                  have HTE : Hid (TT = turned m I t) := by
                    unfold turned
                    rw [if_neg HNA.out, if_neg HB.out]; exact hTT
                  clear hwT HI10 H10t hTT
                  clear e8 hr8 hrm hrm2

            all_goals
              obtain ⟨g11, hg11⟩ : ∃ g11, g11 = wT.heap.size := ⟨_, rfl⟩
              rw [← hg11]
              obtain ⟨u, hu⟩ : ∃ u, u = W.getD j [] := ⟨_, rfl⟩
              have HK11 : Hid (g + 1 < g11 ∧ gb < g11 ∧ (Value.slice (some ⟨gr, 0, none⟩) I cp).ownBlock ≠ some g11 ∧ g10 < g11) := by
                rw [hg11]
                refine ⟨HIT.out.key.lt, HIT.out.box.lt, fun e => ?_, HTT.out.lt⟩
                have := (HIT.out.own.lt _ e).2
                omega
              have HA : Hid (NewI w g gb (.slice (some ⟨gr, 0, none⟩) I cp) W (wT.alloc (.cells #[.int .u8 0, .int .u8 0, .int .u8 0, .int .u8 0] 41))) := HIT.out.then ((But.refl _ _).alloc _)
              have HTA : Hid (Blk (wT.alloc (.cells #[.int .u8 0, .int .u8 0, .int .u8 0, .int .u8 0] 41)) g10 41 (u8s (nts TT))) := HTT.out.but ((But.refl (fun _ => False) _).alloc _) (fun h => h)
              have H11 : Hid (Blk (wT.alloc (.cells #[.int .u8 0, .int .u8 0, .int .u8 0, .int .u8 0] 41)) g11 41 (u8s (nts (partX u TT 0)))) := Blk.new hg11.symm
              generalize wT.alloc (.cells #[.int .u8 0, .int .u8 0, .int .u8 0, .int .u8 0] 41) = W1 at *
              have HU := Hid.mk' hu
              clear hg11 hu HIT HTT
              go_loopw [12] (fun i wr => ∃ k : Nat, k ≤ 4 ∧ i = .int .i64 k ∧ NewI w g gb (.slice (some ⟨gr, 0, none⟩) I cp) W wr ∧ Blk wr g10 41 (u8s (nts TT)) ∧ Blk wr g11 41 (u8s (nts (partX u TT k)))) (fun i _ => 4 - (intOf i).toNat)
              case atStart => exact ⟨0, by decide, rfl, HA.out, HTA.out, H11.out⟩
              case round =>
                obtain ⟨k, hk, rfl, hI, hT, hX⟩ := hrel
                have HIK := Hid.mk' hI
                have HTK := Hid.mk' hT
                have HXK := Hid.mk' hX
                clear hI hT hX HA HTA H11
                by_cases hk4 : k < 4
                · have hki4 : (k : Int) < 4 := by omega
                  have hie := HIE.out
                  have z1 : IntKind.i64.wrap ((I : Int) - (m : Int)) = (j : Int) := by rw [wrap_mid _ (by omega) (by omega)]; omega
                  have z2 : (j : Int) < (I : Int) := by omega
                  have hji : j < I := by omega
                  have ck : wr.cell? ⟨g + 1, 0, none⟩ = some (.slice (some ⟨gr, 0, none⟩) I cp) := by rw [HIK.out.key.cell]; rfl
                  have cu := HIK.out.cell HW4.out j k (by rw [HWL.out]; exact hji) hk4
                  rw [← HU.out] at cu
                  have ct := blk_nts HTK.out k (by have := HTTL.out; rw [nts_len] at this; omega)
                  have cx := blk_nts HXK.out k (by rw [partX_len]; exact hk4)
                  have fx := HXK.out.free k
                  have hxo := xor_b8 (at8 u k) (at8 TT k)
                  generalize hUk : at8 u k = Uk at *
                  generalize hTk : at8 TT k = Tk at *
                  have HUT : Hid (at8 u k = Uk ∧ at8 TT k = Tk) := ⟨hUk, hTk⟩
                  clear hie hUk hTk
                  go_wp2
                  refine region_ends (l := [_, _, _, _, _, _, _, _, _, _, _, _, _, _, _]) (o := _) (by kernel_rfl) (by kernel_rfl) (by kernel_rfl) rfl (by kernel_rfl) (by kernel_rfl) ?_
                  repeat (quiet_step (fail))
                  refine wpQuiet_nil ?_
                  intro _ hw'
                  obtain ⟨nq, hw''⟩ := hw'
                  subst hw''
                  go_wp2
                  have hk11 := HK11.out
                  have hs2 : But (· = g11) wr ((wr.drewN nq).setCell ⟨g11, k, none⟩ (.int .u8 (b8 (Uk ^^^ Tk) : Nat))) := ((But.refl (· = g11) wr).drewN (n := nq)).setCell (p := ⟨g11, k, none⟩) (fun _ => rfl) _
                  refine ⟨⟨k + 1, by omega, by go_num, HIK.out.put HG.out hk11.1 hk11.2.1 hk11.2.2.1 hs2, HTK.out.but hs2 (show ¬ (g10 = g11) by omega), ?_⟩, by simp [intOf]; omega⟩
                  rw [← partX_set u TT k hk4, HUT.out.1, HUT.out.2]
                  exact blk_nts_set HXK.out k _
                · have hk4' : k = 4 := by omega
                  subst hk4'
                  rw [partX_all] at HXK
                  obtain ⟨x, hx⟩ : ∃ x, x = xor4 u TT := ⟨_, rfl⟩
                  rw [← hx] at HXK
                  have hxl : x.length = 4 := by rw [hx]; rfl
                  have hx4 := four_of hxl
                  obtain ⟨z0, hz0⟩ : ∃ z, z = at8 x 0 := ⟨_, rfl⟩
                  obtain ⟨z1, hz1⟩ : ∃ z, z = at8 x 1 := ⟨_, rfl⟩
                  obtain ⟨z2, hz2⟩ : ∃ z, z = at8 x 2 := ⟨_, rfl⟩
                  obtain ⟨z3, hz3⟩ : ∃ z, z = at8 x 3 := ⟨_, rfl⟩
                  rw [← hz0, ← hz1, ← hz2, ← hz3] at hx4
                  rw [hx4] at HXK
                  have HXE : Hid ([z0, z1, z2, z3] = xor4 u TT) := by rw [← hx4]; exact hx
                  have ck : wr.cell? ⟨g + 1, 0, none⟩ = some (.slice (some ⟨gr, 0, none⟩) I cp) := by rw [HIK.out.key.cell]; rfl
                  clear hx hxl hx4 hz0 hz1 hz2 hz3 HTK
                  obtain ⟨i0, hi0, hy0, hy1, hy2⟩ := info_parts info4
                  have HI0 := Hid.mk' hi0
                  have HY0 := Hid.mk' hy0
                  have HY1 := Hid.mk' hy1
                  have HY2 := Hid.mk' hy2
                  clear hi0 hy0 hy1 hy2
                  have HCN : Hid (∀ j u, (u8s (nts [z0, z1, z2, z3]))[j]? = some u → (wr.alloc (.cells #[.int .u8 (b8 z0 : Int), .int .u8 (b8 z1 : Int), .int .u8 (b8 z2 : Int), .int .u8 (b8 z3 : Int)] 41)).cell? ((⟨wr.heap.size, 0, none⟩ : Addr).add j) = some u) := by
                    intro j u hj
                    have hb : Blk (wr.alloc (.cells (u8s (nts [z0, z1, z2, z3])).toArray 41)) wr.heap.size 41 (u8s (nts [z0, z1, z2, z3])) := Blk.new rfl
                    exact add_cell ((hb.cell j).trans hj)
                  have HIA : Hid (NewI w g gb (.slice (some ⟨gr, 0, none⟩) I cp) W (wr.alloc (.cells #[.int .u8 (b8 z0 : Int), .int .u8 (b8 z1 : Int), .int .u8 (b8 z2 : Int), .int .u8 (b8 z3 : Int)] 41))) := HIK.out.then ((But.refl _ _).alloc _)
                  generalize hWA : wr.alloc (.cells #[.int .u8 (b8 z0 : Int), .int .u8 (b8 z1 : Int), .int .u8 (b8 z2 : Int), .int .u8 (b8 z3 : Int)] 41) = WA at *
                  have HWA := Hid.mk' hWA
                  clear hWA
                  have HOW : Hid (WA.ownsRow (gb + 2) 41 4 (.slice (some ⟨gr, 0, none⟩) I cp) I (u8s (nts W.flatten))) := by
                    have h := HIA.out.own
                    rw [HWL.out] at h
                    exact h
                  go_wp2_with (first
                    | (refine wpList_load_u8s Try.underlying41 i4s rfl _ rfl g11 (nts [z0, z1, z2, z3]) rfl rfl HXK.out ?_
                       refine wpList_plain rfl (fun K hK => op_row1 29 _ _ _ rfl rfl (row4 _ _ _ _ _) (hK _ _ ?_))
                       rw [HWA.out]
                       refine wpList_append_own WA rfl _ _ 29 rfl (gb + 2) 41 i0 _ 4 4 Try.underlying29 HI0.out HY0.out HY1.out HY2.out rfl (by decide) _ I _ rfl HOW.out ⟨wr.heap.size, 0, none⟩ 1 1 (u8s (nts [z0, z1, z2, z3])) rfl rfl HCN.out (u8s_one _) (by unfold maxLen; omega) (by omega) HIA.out.size ?_
                       intro v' w' hown' hgr' hiff
                       clear hiff
                       have HMI : Hid (MidI w g gb (.slice (some ⟨gr, 0, none⟩) I cp) v' W [z0, z1, z2, z3] w') := HIA.out.mid HG.out HGB.out hgr' (by rw [HWL.out]; exact hown')
                       obtain ⟨-, ⟨-, hI0⟩ | ⟨gr', cp', cur', rfl, -⟩⟩ := hown'
                       · omega
                       have fk := HMI.out.key.free 0
                       have ck2 : w'.cell? ⟨g + 1, 0, none⟩ = some (.slice (some ⟨gr, 0, none⟩) I cp) := by rw [HMI.out.key.cell]; rfl
                       clear hgr')
                    | fail)
                  have hNI := HMI.out.store HG.out HGB.out
                  have hie := HIE.out
                  refine ⟨⟨j + 1, .slice (some ⟨gr', 0, none⟩) (I + 1) cp', by omega, by rw [hie]; go_num, ?_⟩, by simp [intOf]; omega⟩
                  have e : kws key m (j + 1) = W ++ [[z0, z1, z2, z3]] := by
                    show kws key m j ++ [xor4 ((kws key m j).getD (m + j - m) []) (turned m (m + j) ((kws key m j).getD (m + j - 1) []))] = _
                    rw [← HWE.out, HXE.out, HU.out, HTE.out, HT.out, HI1E.out, ← hie, show I - m = j by omega]
                  rw [e]
                  exact hNI
          · have hj2 : j = 3 * m + 28 := by have := HJ.out; omega
            have hie := HIE.out
            have t1 : ¬ ((I : Int) < 4 * ((m : Int) + 7)) := by omega
            have HWD : Hid (W = words key) := by
              show _ = _
              rw [HWE.out, hj2]
              unfold words
              rw [← HN.out, show n / 4 = m by have := HM4.out; omega]
            have HWR : Hid (Wr wr (.slice (some ⟨gr, 0, none⟩) I cp) (words key)) := by rw [← HWD.out]; exact HI.out.words HW4.out (by rw [HWL.out]; omega)
            have HKL : Hid ((keyV (.slice (some ⟨gr, 0, none⟩) I cp)).length = 513) := keyV_len _
            have HKO : Hid (∀ u ∈ keyV (.slice (some ⟨gr, 0, none⟩) I cp), u.oneCell' = true) := by
              intro u hu
              unfold keyV at hu
              rcases List.mem_cons.1 hu with rfl | hu
              · rfl
              · rcases List.mem_append.1 hu with hu | hu <;> exact u8s_one _ u hu
            clear hie hj2
            go_wp2_with (first
              | (refine wpList_load_key rfl _ rfl (g + 1) rfl HI.out.key ?_)
              | (refine wpList_store_at rfl _ _ _ rfl g 0 (keyV (.slice (some ⟨gr, 0, none⟩) I cp)) rfl rfl 32 [] zeroKey [] (by rw [List.append_nil]; exact HI.out.res) rfl (by rw [zeroKey_len, HKL.out]) (by rw [iKey, HKL.out]) HKO.out ?_; intro w9 hb9 hbut9)
              | fail)
            have hb9' : Blk w9 g 32 (keyV (.slice (some ⟨gr, 0, none⟩) I cp)) := by
              have h := hb9
              rw [List.append_nil, List.nil_append] at h
              exact h
            refine bodyPost_ret (results_row_tmp rfl _ _ g _ _ _ (.bool true) rfl hb9' Try.underlying32 rfl (by rw [iKey, List.size_toArray, HKL.out]) rfl) rfl ⟨_, rfl, ?_, ?_⟩
            · refine ⟨HWR.out.but hbut9 ?_, ?_⟩
              · intro k hk e
                have h1 : gr = k := by simpa [Value.ownBlock] using hk
                have h2 : k = g := e
                have h3 := HGR.out
                have h4 := HGB.out
                omega
              · intro k hk
                have h1 : gr = k := by simpa [Value.ownBlock] using hk
                have h3 := HGR.out
                have h4 := HGB.out
                have h5 := HG.out
                omega
            · exact HI.out.but.then hbut9 (fun i hi e => by have := HG.out; omega)
theorem rnew_any {w : World} {v : Value} {key : List B8} (hv : Bs w v (nts key)) (hl : key.length = 16 ∨ key.length = 32) :
    Calls Try.prog 11 #[v] w fun e w' => ∃ vW, e = .returned (.tuple #[.agg (keyV vW).toArray, .bool true]) ∧ Wr w' vW (words key) ∧ But (fun _ => False) w w' :=
  (rnew_own hv hl).mono fun _ _ ⟨vW, h1, h2, h3⟩ => ⟨vW, h1, h2.1, h3⟩
end Go.Proofs.Ytdlalpklopnpjaa
