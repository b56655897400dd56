/- ShaRefOf, RowLeaf, AppBs. -/
import Derived.Test.YtmlladpmecclbaaDoorJalB
import Derived.BigRegion
import Derived.Test.YtmlladpmecclbaaDoorJalA
import Derived.Laws.Cover3
import Derived.Laws.Pointers
/- The reference's digest: Of. -/
namespace Go.Proofs.YtmlladpmecclbaaDoor
open Go.RowKit

theorem fill_next (D : List Nat) (j : Nat) (hD : D.length = 32) (hj : j < 32) : (u8s (D.take j ++ List.replicate (32 - j) 0)).set j (.int .u8 (D.getD j 0 : Nat)) = u8s (D.take (j + 1) ++ List.replicate (32 - (j + 1)) 0) := by
  have e1 : 32 - j = (32 - (j + 1)) + 1 := by omega
  have hl : (u8s (D.take j)).length = j := by simp [u8s]; omega
  rw [take_next' D j (by omega), e1, List.replicate_succ, u8s_append, List.set_append_right _ _ (by omega), hl, Nat.sub_self]
  simp [u8s]
theorem Blk.setTo {w : World} {g : Nat} {T : TypeId} {L : List Value} (h : Blk w g T L) (i : Nat) {v v' : Value} (e : v = v') : Blk (w.setCell ⟨g, i, none⟩ v) g T (L.set i v') := by
  subst e; exact h.set i v

set_option maxRecDepth 100000 in
set_option maxHeartbeats 60000000 in
theorem refOf_any {v : Value} {xs : List Nat} {w : World} (hv : Bs w v xs) (hl : xs.length ≤ 1048576) :
    Calls Tryd.prog 35 #[v] w fun e w' => e = .returned (.agg (u8s (digest xs)).toArray) ∧ But (fun _ => False) w w' := by
  have hi43 : (Tryd.prog.info? 100).map (·.size) = some 64 := by kernel_rfl
  have hi45 : (Tryd.prog.info? 102).map (·.size) = some 8 := by kernel_rfl
  have HV := Hid.mk' hv
  obtain ⟨ao, cap, rfl, -, -⟩ := hv.gen
  clear hv
  go_enter Tryd.func35, Tryd.ntmps35
  go_wp2_with fail
  refine Calls.mono (words_any _) ?_
  rintro e w1 ⟨rfl, hb1⟩
  obtain ⟨C, hC⟩ : ∃ C, C = (u32s kws).toArray := ⟨_, rfl⟩
  rw [← hC]
  go_wp2_with (first
    | (refine wpList_store_arr rfl _ _ _ rfl w1.heap.size kws rfl (by rw [← hC]; rfl) 100 _ (heap_alloc_new w1 _) hi43 rfl ?_; intro w2 har2 hgrow2)
    | (refine wpList_build rfl _ _ rfl (by kernel_rfl) ?_; rw [show (Tryd.prog.built 102 _).getD #[] = (u32s hws).toArray by kernel_rfl])
    | (refine wpList_store_arr rfl _ _ _ rfl w2.heap.size hws rfl rfl 102 _ (heap_alloc_new w2 _) hi45 rfl ?_; intro w3 har3 hgrow3))
  clear hC
  have g0a : (w.alloc (.cells (u8s (List.replicate 32 0)).toArray 31)).heap[w.heap.size]? = some (.cells (u8s (List.replicate 32 0)).toArray 31 (0, 0)) := heap_alloc_new _ _
  have z1 := hb1.size
  have z0 : w.heap.size + 1 ≤ w1.heap.size := by have := hb1.size; simpa using this
  have g0b : w1.heap[w.heap.size]? = some (.cells (u8s (List.replicate 32 0)).toArray 31 (0, 0)) := (hb1.block _ (by simp) (fun h => h)).trans g0a
  have q2 : But (· = w1.heap.size) w1 w2 := ((But.refl _ w1).alloc _).grown hgrow2 (fun k e _ => by cases e; rfl)
  have q3 : But (· = w2.heap.size) w2 w3 := ((But.refl _ w2).alloc _).grown hgrow3 (fun k e _ => by cases e; rfl)
  have z2 : w1.heap.size + 1 ≤ w2.heap.size := by have := hgrow2.size; simpa using this
  have z3 : w2.heap.size + 1 ≤ w3.heap.size := by have := hgrow3.size; simpa using this
  have q03 : But (fun _ => False) w w3 := ((((But.refl _ w).alloc _).trans hb1).then q2 (fun i hi e => by omega)).then q3 (fun i hi e => by omega)
  have g0c : w3.heap[w.heap.size]? = some (.cells (u8s (List.replicate 32 0)).toArray 31 (0, 0)) := (q3.block _ (by omega) (by omega)).trans ((q2.block _ (by omega) (by omega)).trans g0b)
  have k3 : Ar w3 w1.heap.size 100 kws := har2.but q3 (by omega)
  have HV3 : Hid (Bs w3 (.slice ao xs.length cap) xs) := HV.out.but q03 (fun _ _ _ h => h)
  have HQ3 := Hid.mk' q03
  clear hgrow2 hgrow3 har2 hb1 g0a g0b q2 q3 q03 z1
  obtain ⟨gk, hgk⟩ : ∃ gk, gk = w1.heap.size := ⟨_, rfl⟩
  obtain ⟨gh, hgh⟩ : ∃ gh, gh = w2.heap.size := ⟨_, rfl⟩
  rw [← hgk] at k3 z2 ⊢
  rw [← hgh] at har3 z3 ⊢
  go_wp2_with fail
  refine Calls.mono (padded_any HV3.out hl) ?_
  rintro e w4 ⟨v4, rfl, hown4, hb4⟩
  have hZ0 := padded_len xs
  have hZl : 64 ≤ (padded xs).length ∧ (padded xs).length ≤ 1048576 + 72 := by
    simp only [padded, List.length_append, List.length_replicate, be8, List.length_map, List.length_range, List.length_singleton, noughts]; omega
  obtain ⟨D, hD⟩ : ∃ D, D = digest xs := ⟨_, rfl⟩
  have HDD := Hid.mk' hD
  have HD : Hid (D = outb (hst (padded xs) ((padded xs).length / 64))) := by show _ = _; rw [hD]; rfl
  clear hD
  generalize padded xs = Zp at *
  rcases hown4.shape with ⟨_, h0⟩ | ⟨gp, cp, rfl, hcp, hgp, hgl, -, hcell⟩
  · rw [h0] at hZl; simp at hZl
  have k4 : Ar w4 gk 100 kws := k3.but (R := fun _ => False) (But.of hb4) (fun h => h)
  have h4 : Ar w4 gh 102 hws := har3.but (R := fun _ => False) (But.of hb4) (fun h => h)
  have g4 : w4.heap[w.heap.size]? = some (.cells (u8s (List.replicate 32 0)).toArray 31 (0, 0)) := (hb4.block _ (by omega)).trans g0c
  have q4 : But (fun _ => False) w w4 := HQ3.out.trans (But.of hb4)
  have s4 := hb4.size
  have HB4 : Hid (∀ z ∈ Zp, z < 256) := hown4.lt
  have HC4 : Hid (∀ i, i < Zp.length → w4.cell? ⟨gp, i, none⟩ = some (.int .u8 (Zp.getD i 0 : Nat))) := hcell
  clear k3 har3 g0c HV3 HV HQ3 hown4 hb4 hcell
  obtain ⟨l, hl4⟩ : ∃ l, Zp.length = l := ⟨_, rfl⟩
  rw [hl4] at hZ0 hZl hcp HC4 HD ⊢
  have HL := Hid.mk' hl4
  clear hl4
  have hgg : gk ≠ gh ∧ gk < w3.heap.size ∧ gh < w3.heap.size ∧ w.heap.size < gk ∧ w.heap.size < gh := by omega
  clear hgk hgh
  have HK4 := Hid.mk' k4
  have HH4 := Hid.mk' h4
  have HG4 := Hid.mk' g4
  clear k4 h4 g4
  go_wp2
  go_loopw [6] (fun i wr => ∃ k : Nat, 64 * k ≤ l ∧ i = .int .i64 (64 * k : Nat) ∧ Ar wr gh 102 (hst Zp k) ∧ But (· = gh) w4 wr) (fun i _ => l - (intOf i).toNat)
  case atStart => exact ⟨0, by omega, rfl, HH4.out, But.refl _ _⟩
  case round =>
    obtain ⟨k, hk, rfl, hh, hbut⟩ := hrel
    have HH := Hid.mk' hh
    have hsz := hbut.size
    clear hh
    by_cases hlt : 64 * k < l
    · have hlt' : ((64 * k : Nat) : Int) < (l : Int) := by omega
      obtain ⟨wo, hwo⟩ : ∃ wo, wo = wr := ⟨_, rfl⟩
      subst hwo
      go_wp2
      have hwx : Ar (wo.alloc (.cells (u32s (List.replicate 64 0)).toArray 100)) wo.heap.size 100 (sched (blkw Zp (64 * k)) 0 ++ List.replicate (64 - 0) 0) := heap_alloc_new _ _
      have HWX := Hid.mk' hwx
      clear hwx
      go_loopw [8] (fun i wr => ∃ t : Nat, t ≤ 64 ∧ i = .int .i64 t ∧ Ar wr wo.heap.size 100 (sched (blkw Zp (64 * k)) t ++ List.replicate (64 - t) 0) ∧ But (· = wo.heap.size) wo wr) (fun i _ => 64 - (intOf i).toNat)
      case atStart => exact ⟨0, by decide, rfl, HWX.out, (But.refl _ _).alloc _⟩
      case round =>
        obtain ⟨t, ht, rfl, har, hbt⟩ := hrel
        have hszt := hbt.size
        have hlen : (sched (blkw Zp (64 * k)) t ++ List.replicate (64 - t) 0).length = 64 := by rw [List.length_append, sched_len, List.length_replicate]; omega
        by_cases h64 : t < 64
        · by_cases h16 : t < 16
          ·
            have hq : 64 * k + 4 * t + 3 < l := by omega
            have f : ∀ j, j < 4 → wr.cell? ⟨gp, 64 * k + 4 * t + j, none⟩ = some (.int .u8 (Zp.getD (64 * k + 4 * t + j) 0 : Nat)) := fun j hj =>
              (World.cell?_of_block ((hbt.block gp (by omega) (by omega)).trans (hbut.block gp (by omega) (by omega)))).trans (HC4.out _ (by omega))
            have fb : ∀ j, j < 4 → Zp.getD (64 * k + 4 * t + j) 0 < 256 := fun j hj => HB4.out _ (getD_mem _ _ (by rw [HL.out]; omega))
            have f0 := f 0 (by decide)
            have f1 := f 1 (by decide)
            have f2 := f 2 (by decide)
            have f3 := f 3 (by decide)
            have b0 := fb 0 (by decide)
            have b1 := fb 1 (by decide)
            have b2 := fb 2 (by decide)
            have b3 := fb 3 (by decide)
            have HW : Hid (blkw Zp (64 * k) t = BitVec.ofNat 32 (Zp.getD (64 * k + 4 * t + 0) 0 * 16777216 + Zp.getD (64 * k + 4 * t + 1) 0 * 65536 + Zp.getD (64 * k + 4 * t + 2) 0 * 256 + Zp.getD (64 * k + 4 * t + 3) 0)) := rfl
            have hold := har.cell t (by omega)
            have hfr := har.free t
            have HAR := Hid.mk' har
            generalize Zp.getD (64 * k + 4 * t + 0) 0 = x0 at *
            generalize Zp.getD (64 * k + 4 * t + 1) 0 = x1 at *
            generalize Zp.getD (64 * k + 4 * t + 2) 0 = x2 at *
            generalize Zp.getD (64 * k + 4 * t + 3) 0 = x3 at *
            rw [Nat.add_zero] at f0
            generalize nt ((sched (blkw Zp (64 * k)) t ++ List.replicate (64 - t) 0).getD t 0) = old at *
            clear f fb har
            have hqi : (64 * (k : Int)) + 4 * (t : Int) = ((64 * k + 4 * t : Nat) : Int) := by omega
            generalize 64 * k + 4 * t = q at *
            go_wp2
            go_region
            have hval : ((x0 : Int) * 16777216 + (x1 : Int) * 65536 + (x2 : Int) * 256 + (x3 : Int)) = (nt (blkw Zp (64 * k) t) : Int) := by
              rw [HW.out, nt_of _ (by omega)]; omega
            rw [hval]
            go_wp2
            refine ⟨⟨t + 1, by omega, by go_num, ?_, (hbt.setCell (fun _ => rfl) _).drew⟩, by simp [intOf]; omega⟩
            rw [← set_sched (blkw Zp (64 * k)) t (by omega) (blkw Zp (64 * k) t) (by unfold nextw; rw [if_pos h16])]
            exact (HAR.out.set t _).drew
          ·
            have g15 : wr.cell? ⟨wo.heap.size, t - 15, none⟩ = some (.int .u32 (nt ((sched (blkw Zp (64 * k)) t).getD (t - 15) 0) : Int)) := by rw [har.cell _ (by omega), getD_sched _ _ _ (by omega)]
            have g2 : wr.cell? ⟨wo.heap.size, t - 2, none⟩ = some (.int .u32 (nt ((sched (blkw Zp (64 * k)) t).getD (t - 2) 0) : Int)) := by rw [har.cell _ (by omega), getD_sched _ _ _ (by omega)]
            have g16 : wr.cell? ⟨wo.heap.size, t - 16, none⟩ = some (.int .u32 (nt ((sched (blkw Zp (64 * k)) t).getD (t - 16) 0) : Int)) := by rw [har.cell _ (by omega), getD_sched _ _ _ (by omega)]
            have g7 : wr.cell? ⟨wo.heap.size, t - 7, none⟩ = some (.int .u32 (nt ((sched (blkw Zp (64 * k)) t).getD (t - 7) 0) : Int)) := by rw [har.cell _ (by omega), getD_sched _ _ _ (by omega)]
            have HW : Hid (nextw (blkw Zp (64 * k)) (sched (blkw Zp (64 * k)) t) t = (sched (blkw Zp (64 * k)) t).getD (t - 16) 0 + sg0 ((sched (blkw Zp (64 * k)) t).getD (t - 15) 0) + (sched (blkw Zp (64 * k)) t).getD (t - 7) 0 + sg1 ((sched (blkw Zp (64 * k)) t).getD (t - 2) 0)) := by show _ = _; unfold nextw; rw [if_neg h16]
            have hold := har.cell t (by omega)
            have hfr := har.free t
            have HAR := Hid.mk' har
            generalize (sched (blkw Zp (64 * k)) t).getD (t - 15) 0 = y15 at *
            generalize (sched (blkw Zp (64 * k)) t).getD (t - 2) 0 = y2 at *
            generalize (sched (blkw Zp (64 * k)) t).getD (t - 16) 0 = y16 at *
            generalize (sched (blkw Zp (64 * k)) t).getD (t - 7) 0 = y7 at *
            generalize nt ((sched (blkw Zp (64 * k)) t ++ List.replicate (64 - t) 0).getD t 0) = old at *
            clear har
            have e15 : (t : Int) - 15 = ((t - 15 : Nat) : Int) := by omega
            have e2 : (t : Int) - 2 = ((t - 2 : Nat) : Int) := by omega
            have e16 : (t : Int) - 16 = ((t - 16 : Nat) : Int) := by omega
            have e7 : (t : Int) - 7 = ((t - 7 : Nat) : Int) := by omega
            have l15 : t - 15 < 64 := by omega
            have l2 : t - 2 < 64 := by omega
            have l16 : t - 16 < 64 := by omega
            have l7 : t - 7 < 64 := by omega
            generalize t - 15 = i15 at *
            generalize t - 2 = i2 at *
            generalize t - 16 = i16 at *
            generalize t - 7 = i7 at *
            have hs0 : bits .xor .u32 (bits .xor .u32 (nt (y15.rotateRight 7) : Int) (nt (y15.rotateRight 18) : Int)) ((nt y15 : Int) / 8) = (nt (sg0 y15) : Int) := by
              rw [shr3_nt, xor_nt, xor_nt]; rfl
            have hs1 : bits .xor .u32 (bits .xor .u32 (nt (y2.rotateRight 17) : Int) (nt (y2.rotateRight 19) : Int)) ((nt y2 : Int) / 1024) = (nt (sg1 y2) : Int) := by
              rw [shr10_nt, xor_nt, xor_nt]; rfl
            have hn15 := nt_lt y15
            have hn2 := nt_lt y2
            go_wp2
            go_quiet ((go_at_call 56; refine Calls.quiet_of_same (rotr_any _ _ (by decide) (by decide) _)))
            go_wp2
            go_quiet ((go_at_call 56; exact Calls.mono (rotr_any _ _ (by decide) (by decide) _) (fun _ _ h => ⟨h.1, _, h.2⟩)))
            clear hs0 hs1 hn15 hn2 g15 g2
            have HA : Hid (((nt y16 : Int) + (nt (sg0 y15) : Int) + (nt y7 : Int) + (nt (sg1 y2) : Int)) % 4294967296 = (nt (nextw (blkw Zp (64 * k)) (sched (blkw Zp (64 * k)) t) t) : Int)) := by
              show _ = _; rw [HW.out, ← add_ntm, ← add_ntm, ← add_ntm]; omega
            have ha1 := nt_lt y16
            have ha2 := nt_lt (sg0 y15)
            have ha3 := nt_lt y7
            have ha4 := nt_lt (sg1 y2)
            go_wp2
            go_region
            rw [HA.out]
            clear HA ha1 ha2 ha3 ha4
            go_wp2
            go_roundw
            case rel =>
              refine ⟨t + 1, by omega, by go_num, ?_, hbt.drewN.setCell (fun _ => rfl) _⟩
              rw [← set_sched (blkw Zp (64 * k)) t (by omega) _ rfl]
              exact (show Ar (wr.drewN (_ + 1)) wo.heap.size 100 _ from HAR.out).set t _
            case measure => simp [intOf]; omega
        · have h64i : ¬ ((t : Int) < 64) := by omega
          have ht64 : t = 64 := by omega
          rw [ht64] at har
          have HAR := Hid.mk' har
          obtain ⟨t0, ht0⟩ : ∃ t0, t0 = t := ⟨_, rfl⟩
          rw [← ht0] at h64i ⊢
          clear har h64 ht hlen ht0 ht64
          have HHr := Hid.mk' (HH.out.but hbt (by have := HH.out.lt; omega))
          obtain ⟨C, hC⟩ : ∃ C, C = (u32s (hst Zp k)).toArray := ⟨_, rfl⟩
          have HC' := Hid.mk' hC
          have HLC : Hid (C.size = 8) := by show _ = _; rw [hC, size_u32s]; exact hst_len _ _
          have HARC : Hid (wr.heap[gh]? = some (.cells C 102 (0, 0))) := by show _ = _; rw [hC]; exact HHr.out
          have KEY : Hid (∀ (wx : World), wx.heap[gh]? = wr.heap[gh]? → ∀ (ops : Array Oper) (rest : List Oper) (o : Oper) (a : Act) (Q : Exit → Act → World → Prop) (x : Operand), o.guard = none → o.op = .load 102 x → a.eval x = .pointer (some ⟨gh, 0, none⟩) → wpList Tryd.prog ops Q rest (a.put o.dst (.agg C)) wx → wpList Tryd.prog ops Q (o :: rest) a wx) :=
            fun wx hx ops rest o a Q x h1 h2 h3 h4 => wpList_load_row h1 102 x h2 gh h3 102 C (0, 0) _ (hx.trans HARC.out) Tryd.underlying102 rfl (by rw [HLC.out]; exact hi45) h4
          clear hC
          go_wp2_with (first
            | (refine KEY.out _ (by exact rfl) _ _ _ _ _ _ rfl rfl (by exact rfl) ?_)
            | (refine KEY.out _ (by exact heap_alloc_old _ _ HHr.out.lt) _ _ _ _ _ _ rfl rfl (by exact rfl) ?_)
            | (refine wpList_store_arr rfl _ _ _ rfl wr.heap.size (hst Zp k) rfl (by rw [← HC'.out]; rfl) 102 _ (heap_alloc_new wr _) (by rw [hst_len]; exact hi45) (by rw [hst_len]; rfl) ?_; intro wv harv hgrowv))
          have bv : But (· = wr.heap.size) wr wv := ((But.refl _ wr).alloc _).grown hgrowv (fun k e _ => by cases e; rfl)
          have hszv : wr.heap.size < wv.heap.size := harv.lt
          obtain ⟨gw, hgw⟩ : ∃ gw, gw = wo.heap.size := ⟨_, rfl⟩
          obtain ⟨gv, hgv⟩ : ∃ gv, gv = wr.heap.size := ⟨_, rfl⟩
          have hall : But (· = gh) w4 wv := (hbut.then hbt (fun i hi e => by omega)).then bv (fun i hi e => by omega)
          have hwlt := HAR.out.lt
          have HWv : Hid (Ar wv gw 100 (sched (blkw Zp (64 * k)) 64)) := by
            have h := HAR.out.but bv (by omega)
            rw [show sched (blkw Zp (64 * k)) 64 ++ List.replicate (64 - 64) 0 = sched (blkw Zp (64 * k)) 64 by simp] at h
            rw [hgw]; exact h
          have HKv := Hid.mk' (HK4.out.but hall (by omega))
          have HHv := Hid.mk' (HHr.out.but bv (by have := HHr.out.lt; have := HH4.out.lt; omega))
          have HVv : Hid (Ar wv gv 102 (hst Zp k)) := by rw [hgv]; exact harv
          have HALL := Hid.mk' hall
          have hgdist : w4.heap.size ≤ gw ∧ gw < gv ∧ gv < wv.heap.size := by omega
          rw [← hgw, ← hgv]
          clear bv hszv hgw hgv hall hwlt harv hgrowv HAR HHr HARC KEY HC' HLC hszt hbt
          obtain ⟨Wl, hWl⟩ : ∃ Wl, Wl = sched (blkw Zp (64 * k)) 64 := ⟨_, rfl⟩
          obtain ⟨Hk, hHk⟩ : ∃ Hk, Hk = hst Zp k := ⟨_, rfl⟩
          obtain ⟨RN, hRN⟩ : ∃ RN, RN = rnds (blkw Zp (64 * k)) Hk := ⟨_, rfl⟩
          have HRN : Hid (∀ t, RN (t + 1) = rnd (kws.getD t 0) (Wl.getD t 0) (RN t)) := by rw [hRN, hWl]; intro t; rfl
          have HCM : Hid (hst Zp (k + 1) = List.zipWith (· + ·) Hk (RN 64)) := by rw [hRN, hHk]; rfl
          have HWL : Hid (Wl.length = 64) := by show _ = _; rw [hWl]; exact sched_len _ _
          have HHL : Hid (Hk.length = 8) := by show _ = _; rw [hHk]; exact hst_len _ _
          have HR0 : Hid (RN 0 = Hk) := by rw [hRN]; rfl
          have HRL : Hid (∀ t, (RN t).length = 8) := by rw [hRN]; intro t; exact rnds_len _ _ _ HHL.out
          rw [← hWl] at HWv
          rw [← hHk] at HHv HVv
          clear hWl hHk hRN
          go_wp2
          go_loopw [13] (fun i wr => ∃ t : Nat, t ≤ 64 ∧ i = .int .i64 t ∧ Ar wr gv 102 (RN t) ∧ But (· = gv) wv wr) (fun i _ => 64 - (intOf i).toNat)
          case atStart => exact ⟨0, by decide, rfl, by rw [HR0.out]; exact HVv.out, But.refl _ _⟩
          case round =>
            obtain ⟨t, ht, rfl, har, hbt⟩ := hrel
            by_cases h64 : t < 64
            ·
              have kc : wr.cell? ⟨gk, t, none⟩ = some (.int .u32 (nt (kws.getD t 0) : Int)) := (HKv.out.but hbt (by omega)).cell t h64
              have wc : wr.cell? ⟨gw, t, none⟩ = some (.int .u32 (nt (Wl.getD t 0) : Int)) := (HWv.out.but hbt (by omega)).cell t (by rw [HWL.out]; exact h64)
              have HN := Hid.mk' (HRN.out t)
              have HL8 := HRL.out t
              have h64i : (t : Int) < 64 := by omega
              have HBT := Hid.mk' hbt
              generalize kws.getD t 0 = kk at *
              generalize Wl.getD t 0 = ww at *
              generalize RN t = L at *
              obtain ⟨xa, xb, xc, xd, xe, xf, xg, xh, rfl⟩ : ∃ xa xb xc xd xe xf xg xh, L = [xa, xb, xc, xd, xe, xf, xg, xh] := by
                match L, HL8 with
                | [xa, xb, xc, xd, xe, xf, xg, xh], _ => exact ⟨xa, xb, xc, xd, xe, xf, xg, xh, rfl⟩
              have c0 := har.cell 0 (by simp)
              have c1 := har.cell 1 (by simp)
              have c2 := har.cell 2 (by simp)
              have c3 := har.cell 3 (by simp)
              have c4 := har.cell 4 (by simp)
              have c5 := har.cell 5 (by simp)
              have c6 := har.cell 6 (by simp)
              have c7 := har.cell 7 (by simp)
              have f0 := har.free 0
              have f1 := har.free 1
              have f2 := har.free 2
              have f3 := har.free 3
              have f4 := har.free 4
              have f5 := har.free 5
              have f6 := har.free 6
              have f7 := har.free 7
              have HV := Hid.mk' har
              simp only [List.getD_cons_zero, List.getD_cons_succ] at c0 c1 c2 c3 c4 c5 c6 c7
              clear hbt har HL8
              go_wp2
              go_quiet ((go_at_call 56; exact Calls.mono (rotr_any _ _ (by decide) (by decide) _) (fun _ _ h => ⟨h.1, _, h.2⟩)))
              have ht1 : ((((nt xh : Int) + bits .xor .u32 (bits .xor .u32 (nt (xe.rotateRight 6) : Int) (nt (xe.rotateRight 11) : Int)) (nt (xe.rotateRight 25) : Int) + bits .xor .u32 (bits .and .u32 (nt xe : Int) (nt xf : Int)) (bits .and .u32 (bits .xor .u32 (if IntKind.u32.signed = true then -1 else IntKind.u32.max) (nt xe : Int)) (nt xg : Int)) + (nt kk : Int)) % 4294967296 + (nt ww : Int)) % 4294967296) = (nt (xh + bs1 xe + cho xe xf xg + kk + ww) : Int) := by
                rw [ones_nt, xor_nt, xor_nt, and_nt, and_nt, xor_nt, ← add_ntm, ← add_ntm, ← add_ntm, ← add_ntm]
                simp only [bs1, cho]
                omega
              rw [ht1]
              obtain ⟨n1, hn1⟩ : ∃ n1, n1 = nq := ⟨_, rfl⟩
              subst hn1
              have HT1 : Hid (xh + bs1 xe + cho xe xf xg + kk + ww = xh + (xe.rotateRight 6 ^^^ xe.rotateRight 11 ^^^ xe.rotateRight 25) + ((xe &&& xf) ^^^ (~~~xe &&& xg)) + kk + ww) := rfl
              generalize xh + bs1 xe + cho xe xf xg + kk + ww = t1 at *
              clear ht1 kc wc
              have hs2 : bits .xor .u32 (bits .xor .u32 (nt (xa.rotateRight 2) : Int) (nt (xa.rotateRight 13) : Int)) (nt (xa.rotateRight 22) : Int) = (nt (bs0 xa) : Int) := by
                rw [xor_nt, xor_nt]; rfl
              have hmj : bits .xor .u32 (bits .xor .u32 (bits .and .u32 (nt xa : Int) (nt xb : Int)) (bits .and .u32 (nt xa : Int) (nt xc : Int))) (bits .and .u32 (nt xb : Int) (nt xc : Int)) = (nt (maj xa xb xc) : Int) := by
                rw [and_nt, and_nt, and_nt, xor_nt, xor_nt]; rfl
              have ha2 := add_ntm (bs0 xa) (maj xa xb xc)
              have HT2 : Hid (bs0 xa + maj xa xb xc = (xa.rotateRight 2 ^^^ xa.rotateRight 13 ^^^ xa.rotateRight 22) + ((xa &&& xb) ^^^ (xa &&& xc) ^^^ (xb &&& xc))) := rfl
              generalize bs0 xa + maj xa xb xc = t2 at *
              go_wp2
              go_quiet ((go_at_call 56; exact Calls.mono (rotr_any _ _ (by decide) (by decide) _) (fun _ _ h => ⟨h.1, _, h.2⟩)))
              rw [ha2]
              clear hs2 hmj ha2
              have ha3 := add_ntm xd t1
              have ha4 := add_ntm t1 t2
              have HE : Hid (RN (t + 1) = [t1 + t2, xa, xb, xc, xd + t1, xe, xf, xg]) := by show _ = _; rw [HN.out, HT1.out, HT2.out]; rfl
              obtain ⟨wd, hwd⟩ : ∃ wd, wd = (wr.drewN n1).drewN nq := ⟨_, rfl⟩
              have HVd : Hid (Ar wd gv 102 [xa, xb, xc, xd, xe, xf, xg, xh]) := by rw [hwd]; exact HV.out
              have HBd : Hid (But (· = gv) wv wd) := by rw [hwd]; exact HBT.out.drewN.drewN
              rw [← hwd]
              clear HN HT1 HT2 hwd c0 c1 c2 c3 c4 c5 c6 c7 f0 f1 f2 f3 f4 f5 f6 f7 HV HBT
              have c0 : wd.cell? ⟨gv, 0, none⟩ = some (.int .u32 (nt xa : Int)) := HVd.out.cell 0 (by simp)
              have c1 : wd.cell? ⟨gv, 1, none⟩ = some (.int .u32 (nt xb : Int)) := HVd.out.cell 1 (by simp)
              have c2 : wd.cell? ⟨gv, 2, none⟩ = some (.int .u32 (nt xc : Int)) := HVd.out.cell 2 (by simp)
              have c3 : wd.cell? ⟨gv, 3, none⟩ = some (.int .u32 (nt xd : Int)) := HVd.out.cell 3 (by simp)
              have c4 : wd.cell? ⟨gv, 4, none⟩ = some (.int .u32 (nt xe : Int)) := HVd.out.cell 4 (by simp)
              have c5 : wd.cell? ⟨gv, 5, none⟩ = some (.int .u32 (nt xf : Int)) := HVd.out.cell 5 (by simp)
              have c6 : wd.cell? ⟨gv, 6, none⟩ = some (.int .u32 (nt xg : Int)) := HVd.out.cell 6 (by simp)
              have c7 : wd.cell? ⟨gv, 7, none⟩ = some (.int .u32 (nt xh : Int)) := HVd.out.cell 7 (by simp)
              have f0 := HVd.out.free 0
              have f1 := HVd.out.free 1
              have f2 := HVd.out.free 2
              have f3 := HVd.out.free 3
              have f4 := HVd.out.free 4
              have f5 := HVd.out.free 5
              have f6 := HVd.out.free 6
              have f7 := HVd.out.free 7
              go_wp2
              go_roundw
              case rel =>
                refine ⟨t + 1, by omega, by go_num, ?_, ?_⟩
                · rw [HE.out]
                  have h7 := (((((((HVd.out.set 7 xg).set 6 xf).set 5 xe).set 4 (xd + t1)).set 3 xc).set 2 xb).set 1 xa).set 0 (t1 + t2)
                  exact h7
                · exact (((((((HBd.out.setCell (p := ⟨gv, 7, none⟩) (fun _ => rfl) _).setCell (p := ⟨gv, 6, none⟩) (fun _ => rfl) _).setCell (p := ⟨gv, 5, none⟩) (fun _ => rfl) _).setCell (p := ⟨gv, 4, none⟩) (fun _ => rfl) _).setCell (p := ⟨gv, 3, none⟩) (fun _ => rfl) _).setCell (p := ⟨gv, 2, none⟩) (fun _ => rfl) _).setCell (p := ⟨gv, 1, none⟩) (fun _ => rfl) _).setCell (p := ⟨gv, 0, none⟩) (fun _ => rfl) _
              case measure => simp [intOf]; omega
            ·
              have hge : ¬ ((t : Int) < 64) := by omega
              have ht64 : t = 64 := by omega
              rw [ht64] at har
              have HV64 := Hid.mk' har
              have HHm := Hid.mk' (HHv.out.but hbt (by omega))
              have HALm : Hid (But (· = gh) w4 wr) := HALL.out.then hbt (fun i hi e => by omega)
              have HVL := Hid.mk' (HRL.out 64)
              obtain ⟨V, hV⟩ : ∃ V, V = RN 64 := ⟨_, rfl⟩
              rw [← hV] at HCM HVL HV64
              obtain ⟨t9, ht9⟩ : ∃ t9, t9 = t := ⟨_, rfl⟩
              rw [← ht9] at hge ⊢
              have hszr := hbt.size
              clear hV har hbt ht ht64 h64 ht9 HRN HWL HR0 HRL HVv
              obtain ⟨wm, hwm⟩ : ∃ wm, wm = wr := ⟨_, rfl⟩
              subst hwm
              go_wp2
              go_loopw [16] (fun i wr => ∃ j : Nat, j ≤ 8 ∧ i = .int .i64 j ∧ Ar wr gh 102 ((List.zipWith (· + ·) Hk V).take j ++ Hk.drop j) ∧ But (· = gh) wm wr) (fun i _ => 8 - (intOf i).toNat)
              case atStart => exact ⟨0, by decide, rfl, by simpa using HHm.out, But.refl _ _⟩
              case round =>
                obtain ⟨j, hj, rfl, har, hbj⟩ := hrel
                by_cases h8 : j < 8
                · have hvc := (HV64.out.but hbj (by omega)).cell j (by rw [HVL.out]; exact h8)
                  have hcell := har.cell j (by rw [zip_len Hk V j HHL.out HVL.out hj]; exact h8)
                  rw [zip_get Hk V j HHL.out HVL.out h8] at hcell
                  have hfr := har.free j
                  have HSK := Hid.mk' har
                  have HBK := Hid.mk' hbj
                  have HZ := Hid.mk' (zip_take Hk V j HHL.out HVL.out h8)
                  have hadd := add_ntm (Hk.getD j 0) (V.getD j 0)
                  clear har hbj
                  generalize Hk.getD j 0 = lk at *
                  generalize V.getD j 0 = vk at *
                  have h8i : (j : Int) < 8 := by omega
                  go_wp2
                  go_region
                  go_wp2
                  refine ⟨⟨j + 1, by omega, by go_num, ?_, (HBK.out.setCell (fun _ => rfl) _).drew⟩, by simp [intOf]; omega⟩
                  have hs := HSK.out.set j (lk + vk)
                  rw [HZ.out] at hs
                  exact hs
                · have hge8 : ¬ ((j : Int) < 8) := by omega
                  have hj8 : j = 8 := by omega
                  have e8 : (List.zipWith (· + ·) Hk V).take j ++ Hk.drop j = hst Zp (k + 1) := by
                    rw [hj8, HCM.out, List.take_of_length_le (by simp [HHL.out, HVL.out]), List.drop_of_length_le (by simp [HHL.out]), List.append_nil]
                  rw [e8] at har
                  have HSK := Hid.mk' har
                  have HBF := Hid.mk' (HALm.out.trans hbj)
                  clear har hbj e8 hj8 h8 hj
                  go_wp2
                  refine ⟨⟨k + 1, by omega, by go_num, HSK.out, HBF.out⟩, by simp [intOf]; omega⟩
    · have hge : ¬ (((64 * k : Nat) : Int) < (l : Int)) := by omega
      have hkl : l / 64 = k := by omega
      rw [hkl] at HD
      have HHL8 : Hid ((hst Zp k).length = 8) := hst_len _ _
      generalize hst Zp k = Hk at *
      have HBW := Hid.mk' hbut
      have hwr : w.heap.size < wr.heap.size := by omega
      have HR4 : Hid (Blk wr w.heap.size 31 (u8s (List.replicate 32 0))) := Blk.but (L := u8s (List.replicate 32 0)) HG4.out hbut (by omega)
      obtain ⟨wo, hwo⟩ : ∃ wo, wo = wr := ⟨_, rfl⟩
      subst hwo
      have hgl2 := HH.out.lt
      clear hlt hkl hbut hk HK4 HH4 HG4 HC4 HB4 HL
      have HB0 : Hid (Blk (wo.alloc (.cells (u8s (List.replicate 32 0)).toArray 31)) wo.heap.size 31 (u8s ((outb Hk).take 0 ++ List.replicate (32 - 0) 0))) := Blk.new rfl
      have HOL : Hid ((outb Hk).length = 32) := by simp [Hid, outb]
      have HOG : Hid (∀ j, j < 32 → (outb Hk).getD j 0 = nt (Hk.getD (j / 4) 0) / 2 ^ (24 - 8 * (j % 4)) % 256) := by intro j hj; simp [outb, List.getD, hj]
      go_wp2
      go_loopw [18] (fun i wx => ∃ j : Nat, j ≤ 32 ∧ i = .int .i64 j ∧ Blk wx wo.heap.size 31 (u8s ((outb Hk).take j ++ List.replicate (32 - j) 0)) ∧ But (· = wo.heap.size) wo wx) (fun i _ => 32 - (intOf i).toNat)
      case atStart => exact ⟨0, by decide, rfl, HB0.out, (But.refl _ _).alloc _⟩
      case round =>
        obtain ⟨j, hj, rfl, hblk, hbj⟩ := hrel
        by_cases h32 : j < 32
        · have hold : wr.cell? ⟨wo.heap.size, j, none⟩ = some (.int .u8 ((0 : Nat) : Int)) := by
            rw [hblk.cell, u8s_get _ j (by simp [HOL.out]; omega)]
            have e : ((outb Hk).take j ++ List.replicate (32 - j) 0).getD j 0 = 0 := by
              simp only [List.getD]
              rw [List.getElem?_append_right (by simp; omega)]
              rw [List.getElem?_replicate]; split <;> rfl
            rw [e]
          have hfr := hblk.free j
          obtain ⟨q, hq⟩ : ∃ q, q = j / 4 := ⟨_, rfl⟩
          obtain ⟨r, hr⟩ : ∃ r, r = j % 4 := ⟨_, rfl⟩
          have hq8 : q < 8 := by omega
          have hhc : wr.cell? ⟨gh, q, none⟩ = some (.int .u32 (nt (Hk.getD q 0) : Int)) := (HH.out.but hbj (by omega)).cell q (by rw [HHL8.out]; exact hq8)
          have hog := HOG.out j h32
          rw [← hq, ← hr] at hog
          have HFN := Hid.mk' (fill_next (outb Hk) j HOL.out h32)
          have hxn := nt_lt (Hk.getD q 0)
          generalize Hk.getD q 0 = x at *
          generalize (outb Hk).getD j 0 = y at *
          have hqi : (j : Int) / 4 = (q : Int) := by omega
          have h32i : (j : Int) < 32 := by omega
          have HB := Hid.mk' hblk
          have HBJ := Hid.mk' hbj
          have hr4 : r = 0 ∨ r = 1 ∨ r = 2 ∨ r = 3 := by omega
          clear hblk hbj hq
          rcases hr4 with rfl | rfl | rfl | rfl
          all_goals
            simp only [Nat.reduceMul, Nat.reduceSub, Nat.reducePow] at hog
            have HOG2 := Hid.mk' hog
            clear hog
          case' inl => have hri : (j : Int) % 4 = 0 := by omega
          case' inr.inl => have hri : (j : Int) % 4 = 1 := by omega
          case' inr.inr.inl => have hri : (j : Int) % 4 = 2 := by omega
          case' inr.inr.inr => have hri : (j : Int) % 4 = 3 := by omega
          all_goals
            clear hr
            go_wp2
            refine ⟨⟨j + 1, by omega, by go_num, ?_, HBJ.out.setCell (fun _ => rfl) _⟩, by simp [intOf]; omega⟩
            rw [← HFN.out]
            exact HB.out.setTo j (by have := HOG2.out; congr 1; omega)
        · have hge32 : ¬ ((j : Int) < 32) := by omega
          have hj32 : j = 32 := by omega
          have e : (outb Hk).take j ++ List.replicate (32 - j) 0 = outb Hk := by
            rw [hj32, List.take_of_length_le (by rw [HOL.out]; omega)]; simp
          rw [e] at hblk
          have HB := Hid.mk' hblk
          have HR5 := Hid.mk' (HR4.out.but hbj (by omega))
          have HBF : Hid (But (· = gh) w4 wr) := HBW.out.then hbj (fun i hi e => by omega)
          have HDL : Hid (D.length = 32) := by show _ = _; rw [HD.out]; exact HOL.out
          rw [← HD.out] at HB
          have hi32 : (Tryd.prog.info? 31).map (·.size) = some 32 := by kernel_rfl
          clear hblk hbj e hj32 h32 hj HB0 HOL HOG
          go_wp2_with (first
            | (refine wpList_load_row rfl 31 _ rfl wo.heap.size rfl 31 _ (0, 0) _ HB.out Tryd.underlying31 rfl (by rw [hi32]; simp [u8s, HDL.out]) ?_)
            | (refine wpList_store_at rfl 31 _ _ rfl w.heap.size 0 (u8s D) rfl (by exact rfl) 31 [] (u8s (List.replicate 32 0)) [] (by simpa using HR5.out) rfl (by simp [u8s, HDL.out]) (by rw [hi32]; simp [u8s, HDL.out]) (u8s_one _) ?_; intro w9 hb9 hbut9))
          refine bodyPost_ret (results_cell_row rfl _ _ w.heap.size _ _ _ _ rfl (show Blk w9 w.heap.size 31 (u8s D) by simpa using hb9) Tryd.underlying31 rfl (by rw [hi32]; simp [u8s, HDL.out])) rfl ⟨by rw [HDD.out], ?_⟩
          exact (q4.then HBF.out (fun i hi e => by omega)).then hbut9 (fun i hi e => by omega)
end Go.Proofs.YtmlladpmecclbaaDoor
/- row: isSize, bytes.Clone, New, Left, Fault, End: the small ones. -/
namespace Go.Proofs.YtmlladpmecclbaaDoor
open Go.RowKit

theorem Ow.slice {w : World} {base : Nat} {v : Value} {zs : List Nat} (h : Ow w base v zs) : ∃ ao n cap, v = .slice ao n cap := by
  obtain ⟨ao, cap, e, _⟩ := h.bs.gen; exact ⟨_, _, _, e⟩

end Go.Proofs.YtmlladpmecclbaaDoor
/- Bytes put behind an own row; l[i:j]. -/
namespace Go.Proofs.YtmlladpmecclbaaDoor
open Go.RowKit

theorem wpList_append_bsC {w : World} {ops : Array Oper} {rest : List Oper} {o : Oper} {a : Act} {Q : Exit → Act → World → Prop} (hgd : o.guard = none) (s x : Operand)
    (ho : o.op = .call { callee := .builtin .append, args := #[s, x], argTypes := #[22, 22] }) (base : Nat) (v u : Value) (zs ys : List Nat)
    (hs : a.eval s = v) (hown : Ow w base v zs) (hx : a.eval x = u) (hu : Bs w u ys) (hl : zs.length + ys.length ≤ 140737488355328) (hbase : base ≤ w.heap.size)
    (h : ∀ ao m c w', Ow w' base (.slice ao m c) (zs ++ ys) → m = zs.length + ys.length → w.grownBy w' v.ownBlock → wpList Tryd.prog ops Q rest (a.put o.dst (.slice ao m c)) w') : wpList Tryd.prog ops Q (o :: rest) a w := by
  obtain ⟨i0, hi, hz0, hz1, hz2⟩ := info_parts u8info
  obtain ⟨ao, cap, rfl, hnone, hc⟩ := hu.gen
  cases ao with
  | none =>
    obtain ⟨h0, rfl⟩ := hnone rfl
    have := List.eq_nil_of_length_eq_zero h0
    subst this
    refine wpList_plain hgd fun K hK' => ?_
    have hrun := run_append_owned_none (P := Tryd.prog) w base 22 o.type 5 i0 1 Tryd.underlying22 hi v zs.length (u8s zs) hown.own
    obtain ⟨ao', m', c', rfl⟩ := hown.slice
    have hm : m' = zs.length := by
      obtain ⟨_, _, e, _⟩ := hown.bs.gen
      simp only [Value.slice.injEq] at e
      exact e.2.1
    unfold Oper.wp
    simp only [List.length_nil] at hx
    simp [execOp, ho, resolve, invoke, builtin, hs, hx, hrun, Result.andThen]
    exact hK' _ _ (h ao' m' c' w (by rw [List.append_nil]; exact hown) (by simpa using hm) (World.grownBy.refl _ _))
  | some ad =>
    refine wpList_append_own w hgd s x 22 ho base 5 i0 (.int .u8 0) 1 1 Tryd.underlying22 hi hz0 hz1 hz2 rfl (by decide) v zs.length (u8s zs) hs hown.own ad ys.length cap (u8s ys) hx (by simp [u8s]) (hc ad rfl) (u8s_one ys) (by unfold maxLen; omega) (by omega) hbase ?_
    intro v' w' h1 h2 _
    have ho' : Ow w' base v' (zs ++ ys) := by
      refine ⟨?_, by rw [List.length_append]; omega, ?_⟩
      · intro z hz
        rcases List.mem_append.1 hz with hz | hz
        · exact hown.lt z hz
        · exact hu.1 z hz
      · rw [List.length_append, u8s_append]; exact h1
    obtain ⟨ao', m', c', rfl⟩ := ho'.slice
    refine h ao' m' c' w' ho' ?_ h2
    obtain ⟨_, _, e, _⟩ := ho'.bs.gen
    simp only [Value.slice.injEq] at e
    rw [e.2.1, List.length_append]
theorem slice_mid {b so m cap n e : Nat} (hn : n ≤ e) (he : e ≤ cap) (hc : n < cap) (w0 : World) :
    (Instr.sliceAt 22 (.slice (some ⟨b, so, none⟩) m cap) (some (.int .i64 (n : Int))) (some (.int .i64 (e : Int))) none).run Tryd.prog w0 = .ok (.slice (some ⟨b, so + n, none⟩) (e - n) (cap - n)) w0 := by
  have h1 : (n : Int) ≤ (e : Int) := by omega
  have h2 : (e : Int) ≤ (cap : Int) := by omega
  have h3 : ¬ cap = n := by omega
  go_simp
theorem Bs.mid {w : World} {b so m cap n e : Nat} {zs : List Nat} (h : Bs w (.slice (some ⟨b, so, none⟩) m cap) zs) (hn : n < e) (he : e ≤ zs.length) : Bs w (.slice (some ⟨b, so + n, none⟩) (e - n) (cap - n)) ((zs.drop n).take (e - n)) := by
  obtain ⟨h1, h2, ⟨rfl, _⟩ | ⟨h3, b', so1, cap', ev, hcap, hb, hcell⟩⟩ := h
  · simp at he; omega
  simp only [Value.slice.injEq, Option.some.injEq, Addr.mk.injEq, and_true] at ev
  obtain ⟨⟨rfl, rfl⟩, _, rfl⟩ := ev
  have hlen : ((zs.drop n).take (e - n)).length = e - n := by simp; omega
  refine ⟨fun z hz => h1 z (List.mem_of_mem_drop (List.mem_of_mem_take hz)), by rw [hlen]; omega, .inr ⟨by rw [hlen]; omega, b, so + n, cap - n, by rw [hlen], by rw [hlen]; omega, hb, fun i hi => ?_⟩⟩
  rw [hlen] at hi
  rw [Nat.add_assoc, hcell (n + i) (by omega)]
  simp [List.getD, hi]
end Go.Proofs.YtmlladpmecclbaaDoor
